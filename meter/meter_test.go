package meter_test

import (
	"math"
	"slices"
	"testing"

	"turnkey/api"
	"turnkey/meter"
)

func make1(t *testing.T, n int) *meter.Meters {
	t.Helper()
	m, err := meter.New(n)
	if err != nil {
		t.Fatal(err)
	}
	return m
}

// makes a meter that has to get that number.
func add(t *testing.T, m *meter.Meters, want, parent, ticks int) {
	t.Helper()
	if id, _, err := m.Make(parent, ticks); id != want || err != nil {
		t.Fatal(id, err)
	}
}

func has(t *testing.T, m *meter.Meters, ticks ...int) {
	t.Helper()
	for id, want := range ticks {
		if m.Ticks(id) != want {
			t.Errorf("meter %d has %d, not %d", id, m.Ticks(id), want)
		}
	}
}

// P12.1: arena's errors.
func TestNew(t *testing.T) {
	for _, n := range []int{0, -1, 257} {
		if m, err := meter.New(n); m != nil || err != api.ErrRange {
			t.Error(n, err)
		}
	}
}

// P12.1: made below another one, or below none.
func TestMake(t *testing.T) {
	m := make1(t, 3)
	add(t, m, 0, -1, api.MaxTicks)
	add(t, m, 1, 0, 0)
	has(t, m, api.MaxTicks, 0, 0)
	if m.Parent(0) != -1 || m.Parent(1) != 0 || m.Parent(2) != -1 || m.Parent(-1) != -1 || m.Parent(99) != -1 || m.Ticks(-1) != 0 || m.Ticks(99) != 0 {
		t.Error("parents")
	}
	m.End(0)
	if id, ver, err := m.Make(-1, 5); id != 0 || ver != 1 || err != nil || m.Ticks(0) != 5 || m.Ticks(1) != 0 {
		t.Error(id, ver, err)
	}
}

// P12.1: Make's errors in their order.
func TestMakeErrors(t *testing.T) {
	m := make1(t, 9)
	for i := range 8 {
		add(t, m, i, i-1, 1)
	}
	for _, x := range []struct {
		parent, ticks int
		want          error
	}{
		{8, -1, api.ErrNone}, {-2, -1, api.ErrNone}, {9, 0, api.ErrNone}, {math.MinInt, 0, api.ErrNone},
		{7, -1, api.ErrRange}, {7, api.MaxTicks + 1, api.ErrRange}, {-1, math.MinInt, api.ErrRange},
		{7, 1, api.ErrMany},
	} {
		if id, ver, err := m.Make(x.parent, x.ticks); id != 0 || ver != 0 || err != x.want || m.Used() != 8 {
			t.Error(x, id, ver, err)
		}
	}
	add(t, m, 8, 6, 1)
	if _, _, err := m.Make(7, 1); err != api.ErrMany {
		t.Error(err)
	}
	if _, _, err := m.Make(-1, 1); err != api.ErrFull {
		t.Error(err)
	}
}

// P12.1: ticks are added up to MaxTicks, to each that is there.
func TestAdd(t *testing.T) {
	m := make1(t, 4)
	add(t, m, 0, -1, 5)
	add(t, m, 1, -1, api.MaxTicks-1)
	if n := m.Add(3, 0, 1, 2, -1, 99, 0); n != 3 {
		t.Error(n)
	}
	has(t, m, 11, api.MaxTicks)
	if n := m.Add(-4, 0, 1); n != 2 {
		t.Error(n)
	}
	has(t, m, 11, api.MaxTicks)
	if m.Add(math.MaxInt, 0) != 1 || m.Add(math.MinInt, 1) != 1 || m.Add(1) != 0 {
		t.Error("how many")
	}
	has(t, m, api.MaxTicks, api.MaxTicks)
}

// P12.1: it, its parent, and so on.
func TestChain(t *testing.T) {
	m := make1(t, 4)
	add(t, m, 0, -1, 1)
	add(t, m, 1, 0, 1)
	add(t, m, 2, 1, 1)
	if !slices.Equal(m.Chain(2), []int{2, 1, 0}) || !slices.Equal(m.Chain(0), []int{0}) || len(m.Chain(3)) != 0 || len(m.Chain(-1)) != 0 {
		t.Error(m.Chain(2))
	}
	m.Chain(2)[0] = 9
	if !slices.Equal(m.Chain(2), []int{2, 1, 0}) {
		t.Error(m.Chain(2))
	}
}

// P12.1: all of a chain lose the ticks, or none does.
func TestCharge(t *testing.T) {
	m := make1(t, 5)
	add(t, m, 0, -1, 10)
	add(t, m, 1, 0, 3)
	add(t, m, 2, 1, 8)
	for _, x := range []struct {
		id, ticks, who int
		ok             bool
		left           [3]int
	}{
		{2, 2, 0, true, [3]int{8, 1, 6}},
		{2, 2, 1, false, [3]int{8, 1, 6}},
		{2, 7, 2, false, [3]int{8, 1, 6}},
		{2, 0, 0, true, [3]int{8, 1, 6}},
		{2, 1, 0, true, [3]int{7, 0, 5}},
		{0, 7, 0, true, [3]int{0, 0, 5}},
		{1, 0, 0, true, [3]int{0, 0, 5}},
		{2, -1, -1, false, [3]int{0, 0, 5}}, {2, math.MinInt, -1, false, [3]int{0, 0, 5}},
		{3, 0, -1, false, [3]int{0, 0, 5}}, {-1, 0, -1, false, [3]int{0, 0, 5}}, {9, 1, -1, false, [3]int{0, 0, 5}},
		{0, math.MaxInt, 0, false, [3]int{0, 0, 5}},
	} {
		if who, ok := m.Charge(x.id, x.ticks); who != x.who || ok != x.ok {
			t.Error(x, who, ok)
		}
		has(t, m, x.left[:]...)
	}
}

// P12.1: the parent has none: it is told.
func TestChargeParent(t *testing.T) {
	m := make1(t, 5)
	add(t, m, 0, -1, 5)
	add(t, m, 1, 0, 0)
	add(t, m, 2, 1, 4)
	if who, ok := m.Charge(2, 1); who != 1 || ok {
		t.Error(who, ok)
	}
}

// P12.1: a meter ends with all that stand below it.
func TestEnd(t *testing.T) {
	m := make1(t, 6)
	add(t, m, 0, -1, 1)
	add(t, m, 1, 0, 1)
	add(t, m, 2, 0, 1)
	add(t, m, 3, 1, 1)
	add(t, m, 4, 3, 1)
	for _, id := range []int{5, -1, 99} {
		if err := m.End(id); err != api.ErrNone {
			t.Error(id, err)
		}
	}
	if err := m.End(1); err != nil || m.Used() != 2 || !m.There(0) || !m.There(2) {
		t.Error(err, m.Used())
	}
	if m.End(1) != api.ErrNone || m.End(4) != api.ErrNone {
		t.Error("ended twice")
	}
	add(t, m, 1, 2, 1)
	if m.Ver(1) != 1 || m.Parent(1) != 2 || m.Parent(3) != -1 {
		t.Error(m.Ver(1), m.Parent(1))
	}
}

// P12.1: a clone goes its own way.
func TestClone(t *testing.T) {
	m := make1(t, 3)
	add(t, m, 0, -1, 5)
	c := m.Clone()
	c.Charge(0, 2)
	m.Add(1, 0)
	add(t, c, 1, 0, 7)
	has(t, m, 6, 0)
	has(t, c, 3, 7)
}
