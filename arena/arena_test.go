package arena_test

import (
	"math"
	"testing"

	"turnkey/api"
	"turnkey/arena"
)

func make1(t *testing.T, n int) *arena.Arena {
	t.Helper()
	a, err := arena.New(n)
	if err != nil {
		t.Fatal(err)
	}
	return a
}

func take(t *testing.T, a *arena.Arena, wantID, wantVer int) {
	t.Helper()
	if id, ver, err := a.Take(); id != wantID || ver != wantVer || err != nil {
		t.Fatalf("took %d.%d, %v, not %d.%d", id, ver, err, wantID, wantVer)
	}
}

func counts(t *testing.T, a *arena.Arena, used, left int) {
	t.Helper()
	if a.Used() != used || a.Left() != left {
		t.Errorf("used %d, left %d, not %d, %d", a.Used(), a.Left(), used, left)
	}
}

// P4.1: how many places there may be.
func TestNew(t *testing.T) {
	for _, n := range []int{0, -1, 257, math.MaxInt, math.MinInt} {
		if a, err := arena.New(n); a != nil || err != api.ErrRange {
			t.Error(n, a, err)
		}
	}
	for _, n := range []int{1, 256} {
		a := make1(t, n)
		counts(t, a, 0, n)
		if a.Cap() != n {
			t.Error(a.Cap())
		}
	}
}

// P4.1: the least free place, till there is none.
func TestTake(t *testing.T) {
	a := make1(t, 3)
	take(t, a, 0, 0)
	take(t, a, 1, 0)
	take(t, a, 2, 0)
	if id, ver, err := a.Take(); id != 0 || ver != 0 || err != api.ErrFull {
		t.Error(id, ver, err)
	}
	counts(t, a, 3, 0)
	for _, id := range []int{2, 0} {
		if err := a.Give(id); err != nil {
			t.Error(err)
		}
	}
	counts(t, a, 1, 2)
	take(t, a, 0, 1)
	take(t, a, 2, 1)
	counts(t, a, 3, 0)
}

// P4.1: what isn't there can't be given back.
func TestGiveNone(t *testing.T) {
	a := make1(t, 2)
	take(t, a, 0, 0)
	for _, id := range []int{1, 2, -1, math.MaxInt, math.MinInt} {
		if err := a.Give(id); err != api.ErrNone {
			t.Error(id, err)
		}
	}
	if a.Give(0) != nil || a.Give(0) != api.ErrNone || a.Ver(0) != 1 {
		t.Error(a.Ver(0))
	}
}

// P4.1: there, live, and the version.
func TestLive(t *testing.T) {
	a := make1(t, 2)
	if a.There(0) || a.Live(0, 0) || a.Ver(0) != 0 {
		t.Error("of a free place")
	}
	take(t, a, 0, 0)
	if !a.There(0) || !a.Live(0, 0) || a.Live(0, 1) || a.Live(0, -1) {
		t.Error("of one that is there")
	}
	a.Give(0)
	if a.There(0) || a.Live(0, 0) || a.Live(0, 1) || a.Ver(0) != 1 {
		t.Error("of one that was given back")
	}
	take(t, a, 0, 1)
	if a.Live(0, 0) || !a.Live(0, 1) {
		t.Error("of one that came anew")
	}
	for _, id := range []int{-1, 2, math.MaxInt} {
		if a.There(id) || a.Live(id, 0) || a.Ver(id) != 0 {
			t.Error(id)
		}
	}
}

// P4.1: a place whose version was MaxVersion is free no more.
func TestWornOut(t *testing.T) {
	a := make1(t, 2)
	for ver := range api.MaxVersion + 1 {
		take(t, a, 0, ver)
		if err := a.Give(0); err != nil {
			t.Fatal(err)
		}
	}
	if a.There(0) || a.Live(0, api.MaxVersion) || a.Cap() != 2 {
		t.Error("it is there yet")
	}
	counts(t, a, 0, 1)
	take(t, a, 1, 0)
	if _, _, err := a.Take(); err != api.ErrFull {
		t.Error(err)
	}
	if err := a.Give(0); err != api.ErrNone {
		t.Error(err)
	}
}

// P4.1: a copy goes its own way, and so does what it was made of.
func TestCopy(t *testing.T) {
	a := make1(t, 2)
	take(t, a, 0, 0)
	b := a.Copy()
	take(t, b, 1, 0)
	a.Give(0)
	if a.There(1) || a.There(0) || !b.Live(0, 0) || !b.Live(1, 0) || b.Cap() != 2 {
		t.Error("they share")
	}
}
