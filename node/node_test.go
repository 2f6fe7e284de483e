package node_test

import (
	"math"
	"slices"
	"testing"

	"turnkey/api"
	"turnkey/key"
	"turnkey/node"
)

func make1(t *testing.T, n int) *node.Nodes {
	t.Helper()
	s, err := node.New(n)
	if err != nil {
		t.Fatal(err)
	}
	return s
}

var (
	badKind = api.Key{Kind: 15}
	badID   = api.Key{Kind: api.Page, ID: 256}
)

// P6.1: arena's errors.
func TestNew(t *testing.T) {
	for _, n := range []int{0, -1, 257} {
		if s, err := node.New(n); s != nil || err != api.ErrRange {
			t.Error(n, err)
		}
	}
	if s := make1(t, 256); s.Cap() != 256 {
		t.Error(s.Cap())
	}
}

// P6.1: a node with these keys, others Voids.
func TestMake(t *testing.T) {
	n := make1(t, 3)
	if id, ver, err := n.Make(); id != 0 || ver != 0 || err != nil || !slices.Equal(n.All(0), make([]api.Key, 16)) {
		t.Fatal(id, ver, err, n.All(0))
	}
	want := make([]api.Key, 16)
	want[0], want[1] = key.Num(7), api.Key{Kind: api.Clock}
	if id, _, err := n.Make(want[:2]...); id != 1 || err != nil || !slices.Equal(n.All(1), want) {
		t.Error(id, err, n.All(1))
	}
	for i := range want {
		want[i] = key.Num(uint32(i))
	}
	if id, _, err := n.Make(want...); id != 2 || err != nil || !slices.Equal(n.All(2), want) {
		t.Error(id, err, n.All(2))
	}
	want[0] = key.Num(99)
	if n.All(2)[0] != key.Num(0) {
		t.Error("what was handed in is kept")
	}
}

// P6.1: too many, then the first key that is not valid, then no room; nothing is changed.
func TestMakeErrors(t *testing.T) {
	n := make1(t, 1)
	many := make([]api.Key, 17)
	many[0] = badKind
	for _, x := range []struct {
		keys []api.Key
		want error
	}{
		{many, api.ErrMany},
		{[]api.Key{key.Num(1), badID, badKind}, api.ErrRange},
		{[]api.Key{badKind, badID}, api.ErrShape},
	} {
		if id, ver, err := n.Make(x.keys...); id != 0 || ver != 0 || err != x.want || n.Used() != 0 {
			t.Error(id, ver, err, x.want)
		}
	}
	n.Make()
	if _, _, err := n.Make(badID); err != api.ErrRange {
		t.Error(err)
	}
	if _, _, err := n.Make(); err != api.ErrFull {
		t.Error(err)
	}
}

// P6.1: a node made anew has none of the keys that stood there.
func TestMakeAnew(t *testing.T) {
	n := make1(t, 1)
	n.Make(key.Num(1), key.Num(2))
	n.Give(0)
	if id, ver, err := n.Make(key.Num(3)); id != 0 || ver != 1 || err != nil {
		t.Fatal(id, ver, err)
	}
	want := make([]api.Key, 16)
	want[0] = key.Num(3)
	if !slices.Equal(n.All(0), want) {
		t.Error(n.All(0))
	}
}

// P6.1: a slot is read and laid, and what is none.
func TestGetSet(t *testing.T) {
	n := make1(t, 2)
	n.Make()
	for _, slot := range []int{0, 15} {
		if err := n.Set(0, slot, key.Num(uint32(slot))); err != nil {
			t.Error(slot, err)
		}
		if k, ok := n.Get(0, slot); !ok || k != key.Num(uint32(slot)) {
			t.Error(slot, k, ok)
		}
	}
	for _, x := range []struct {
		id, slot int
		k        api.Key
		want     error
	}{
		{1, -1, badKind, api.ErrNone}, {-1, 0, badKind, api.ErrNone}, {2, 0, api.Key{}, api.ErrNone}, {math.MaxInt, 0, api.Key{}, api.ErrNone},
		{0, -1, badKind, api.ErrRange}, {0, 16, badKind, api.ErrRange}, {0, math.MaxInt, api.Key{}, api.ErrRange},
		{0, 0, badKind, api.ErrShape}, {0, 0, badID, api.ErrRange},
	} {
		if err := n.Set(x.id, x.slot, x.k); err != x.want {
			t.Error(x, err)
		}
		if x.want == api.ErrNone || x.slot != 0 {
			if k, ok := n.Get(x.id, x.slot); ok || k != (api.Key{}) {
				t.Error(x, k)
			}
		}
	}
	if k, _ := n.Get(0, 0); k != key.Num(0) {
		t.Error("an error changed it", k)
	}
	n.Give(0)
	if _, ok := n.Get(0, 0); ok || n.Set(0, 0, api.Key{}) != api.ErrNone || len(n.All(0)) != 0 {
		t.Error("of one that was given back")
	}
}

// P6.1: the keys handed out are new memory; of no node: none.
func TestAll(t *testing.T) {
	n := make1(t, 1)
	n.Make(key.Num(1))
	n.All(0)[0] = key.Num(5)
	if n.All(0)[0] != key.Num(1) || len(n.All(1)) != 0 || len(n.All(-1)) != 0 {
		t.Error(n.All(0))
	}
}

// P6.1: a clone goes its own way.
func TestClone(t *testing.T) {
	n := make1(t, 2)
	n.Make(key.Num(1))
	c := n.Clone()
	c.Set(0, 0, key.Num(2))
	n.Set(0, 1, key.Num(3))
	c.Make()
	if n.All(0)[0] != key.Num(1) || c.All(0)[0] != key.Num(2) || c.All(0)[1] != (api.Key{}) || n.There(1) {
		t.Error(n.All(0), c.All(0))
	}
}
