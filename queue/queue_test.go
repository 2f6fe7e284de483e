package queue_test

import (
	"math"
	"slices"
	"testing"

	"turnkey/queue"
)

func filled(l ...int) *queue.Queue {
	q := &queue.Queue{}
	q.Put(l...)
	return q
}

func holds(t *testing.T, q *queue.Queue, l ...int) {
	t.Helper()
	if !slices.Equal(q.All(), l) || q.Len() != len(l) {
		t.Errorf("%v, %d, not %v", q.All(), q.Len(), l)
	}
	for _, id := range l {
		if !q.Has(id) {
			t.Error(id, "isn't in it")
		}
	}
}

// P13.1: the zero value is an empty queue.
func TestZero(t *testing.T) {
	var q queue.Queue
	if id, ok := q.Pick(0); id != 0 || ok {
		t.Error(id, ok)
	}
	if q.Has(0) || q.Drop(0) || q.Len() != 0 || len(q.All()) != 0 || q.Put() != 0 {
		t.Error("it isn't empty")
	}
	holds(t, &q)
}

// P13.1: to the end, but one that is in it stays where it is.
func TestPut(t *testing.T) {
	q := &queue.Queue{}
	if n := q.Put(3, 5, 3); n != 2 {
		t.Error(n)
	}
	holds(t, q, 3, 5)
	if n := q.Put(5, -7, 3, math.MinInt, 0); n != 3 {
		t.Error(n)
	}
	holds(t, q, 3, 5, -7, math.MinInt, 0)
	if n := q.Put(3); n != 0 {
		t.Error(n)
	}
}

// P13.1: the one at the place that is left over, of choices below 0 too.
func TestPick(t *testing.T) {
	for _, x := range []struct{ choice, want int }{
		{0, 10}, {1, 11}, {2, 12}, {3, 10}, {7, 11}, {-1, 12}, {-2, 11}, {-3, 10}, {-4, 12},
		{math.MaxInt, 10 + math.MaxInt%3}, {math.MinInt, 10 + (math.MinInt%3+3)%3},
	} {
		q := filled(10, 11, 12)
		if id, ok := q.Pick(x.choice); id != x.want || !ok {
			t.Error(x, id, ok)
		}
		if q.Has(x.want) || q.Len() != 2 {
			t.Error(x, q.All())
		}
	}
	q := filled(10, 11, 12)
	q.Pick(1)
	holds(t, q, 10, 12)
	q.Put(11)
	holds(t, q, 10, 12, 11)
	for range 3 {
		q.Pick(-1)
	}
	if _, ok := q.Pick(5); ok {
		t.Error("of none")
	}
}

// P13.1: one is taken out.
func TestDrop(t *testing.T) {
	q := filled(1, 2, 3)
	if !q.Drop(2) || q.Drop(2) || q.Drop(9) {
		t.Error("Drop")
	}
	holds(t, q, 1, 3)
	if q.Has(2) || q.Put(2) != 1 {
		t.Error("it is in it yet")
	}
	holds(t, q, 1, 3, 2)
}

// P13.1: what is handed out is new memory.
func TestAllNewMemory(t *testing.T) {
	q := filled(1, 2)
	l := q.All()
	l[0] = 9
	_ = append(l, 8)
	q.Put(3)
	holds(t, q, 1, 2, 3)
}
