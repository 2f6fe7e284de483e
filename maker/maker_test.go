package maker_test

import (
	"math"
	"slices"
	"testing"

	"turnkey/api"
	"turnkey/key"
	"turnkey/maker"
)

// n places, of which so many are taken.
func make1(t *testing.T, n, taken int) *maker.Makers {
	t.Helper()
	m, err := maker.New(n)
	if err != nil {
		t.Fatal(err)
	}
	for i := range taken {
		if id, ver, err := m.Make(); id != i || ver != 0 || err != nil {
			t.Fatal(id, ver, err)
		}
	}
	return m
}

var (
	voids   = make([]api.Key, 6)
	console = api.Key{Kind: api.Console}
)

// P20.1: arena's errors.
func TestNew(t *testing.T) {
	for _, n := range []int{0, -1, 257} {
		if m, err := maker.New(n); m != nil || err != api.ErrRange {
			t.Error(n, err)
		}
	}
}

// P20.1: open, of Voids; and none is left.
func TestMake(t *testing.T) {
	m := make1(t, 2, 2)
	if m.Sealed(0) || !slices.Equal(m.Parts(0), voids) || len(m.Holes(0)) != 0 {
		t.Error(m.Parts(0))
	}
	if id, ver, err := m.Make(); id != 0 || ver != 0 || err != api.ErrFull {
		t.Error(id, ver, err)
	}
}

// P20.1: parts are installed, and Install's errors in their order.
func TestInstall(t *testing.T) {
	m := make1(t, 3, 2)
	want := slices.Clone(voids)
	for part := range 6 {
		want[part] = key.Num(uint32(part))
		if err := m.Install(1, part, want[part]); err != nil || !slices.Equal(m.Parts(1), want) {
			t.Error(err, m.Parts(1))
		}
	}
	m.Install(1, 3, console)
	want[3] = console
	m.Seal(0)
	shape, out := api.Key{Kind: 15}, api.Key{Kind: api.Page, ID: 256}
	for _, x := range []struct {
		id, part int
		k        api.Key
		want     error
	}{
		{2, 6, shape, api.ErrNone}, {-1, 0, console, api.ErrNone}, {3, 0, console, api.ErrNone}, {math.MaxInt, 0, console, api.ErrNone},
		{0, 6, shape, api.ErrState}, {0, 0, console, api.ErrState},
		{1, 6, shape, api.ErrRange}, {1, -1, shape, api.ErrRange}, {1, math.MaxInt, console, api.ErrRange},
		{1, 0, shape, api.ErrShape}, {1, 0, out, api.ErrRange},
	} {
		if err := m.Install(x.id, x.part, x.k); err != x.want {
			t.Error(x, err)
		}
	}
	if !slices.Equal(m.Parts(0), voids) || !slices.Equal(m.Parts(1), want) {
		t.Error(m.Parts(0), m.Parts(1))
	}
}

// P20.1: sealed once, for good.
func TestSeal(t *testing.T) {
	m := make1(t, 2, 1)
	if err := m.Seal(0); err != nil || !m.Sealed(0) {
		t.Error(err)
	}
	if err := m.Seal(0); err != api.ErrState || !m.Sealed(0) {
		t.Error(err)
	}
	for _, id := range []int{1, -1, 2} {
		if err := m.Seal(id); err != api.ErrNone || m.Sealed(id) {
			t.Error(id, err)
		}
	}
	if len(m.Holes(0)) != 0 {
		t.Error(m.Holes(0))
	}
}

// P20.1: all parts, in new memory.
func TestParts(t *testing.T) {
	m := make1(t, 2, 1)
	m.Parts(0)[0] = console
	if !slices.Equal(m.Parts(0), voids) {
		t.Error(m.Parts(0))
	}
	for _, id := range []int{1, -1, 2} {
		if len(m.Parts(id)) != 0 || len(m.Holes(id)) != 0 {
			t.Error(id)
		}
	}
}

// P20.1: holes among all, sealed or not.
func TestHoles(t *testing.T) {
	m := make1(t, 4, 3)
	m.Install(0, 0, api.Key{Kind: api.Maker, ID: 1})
	m.Install(0, 4, console)
	m.Install(0, 5, key.Num(3))
	if got := m.Holes(0); !slices.Equal(got, []api.Key{{Kind: api.Maker, ID: 1}, console}) {
		t.Error(got)
	}
	m.Seal(1)
	if got := m.Holes(0); !slices.Equal(got, []api.Key{console}) {
		t.Error(got)
	}
	m.Seal(0)
	if got := m.Holes(0); !slices.Equal(got, []api.Key{console}) {
		t.Error(got)
	}
	m.Install(2, 0, api.Key{Kind: api.Maker, ID: 1, Ver: 1})
	m.Install(2, 1, api.Key{Kind: api.Maker, ID: 2})
	m.Seal(2)
	if got := m.Holes(2); !slices.Equal(got, m.Parts(2)[:2]) {
		t.Error(got)
	}
}

// P20.1: those that are there, by numbers, with their versions and parts.
func TestAll(t *testing.T) {
	m := make1(t, 4, 3)
	m.Install(2, 1, console)
	m.Seal(2)
	all := m.All()
	if len(all) != 3 {
		t.Fatal(all)
	}
	for id, f := range all {
		if f.ID != id || f.Ver != 0 || f.Sealed != (id == 2) || !slices.Equal(f.Parts, m.Parts(id)) {
			t.Error(f)
		}
	}
	all[2].Parts[1] = api.Key{}
	if m.Parts(2)[1] != console {
		t.Error("it shares its parts")
	}
	if len(make1(t, 1, 0).All()) != 0 {
		t.Error("of none")
	}
}

// P20.1: a clone goes its own way.
func TestClone(t *testing.T) {
	m := make1(t, 2, 1)
	c := m.Clone()
	c.Install(0, 0, console)
	c.Make()
	m.Seal(0)
	if m.Parts(0)[0] != (api.Key{}) || c.Sealed(0) || m.There(1) || !c.There(1) {
		t.Error("they share")
	}
}
