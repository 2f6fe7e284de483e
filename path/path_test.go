package path_test

import (
	"math"
	"slices"
	"testing"

	"turnkey/api"
	"turnkey/key"
	"turnkey/path"
	"turnkey/store"
)

func make1(t *testing.T) *store.Store {
	t.Helper()
	s, err := store.New(16, 16)
	if err != nil {
		t.Fatal(err)
	}
	return s
}

func page(s *store.Store) api.Key {
	id, _, _ := s.Pages.Make()
	return s.PageKey(id)
}

// a node of that height with these keys at these slots.
func node(s *store.Store, height int, at map[int]api.Key) api.Key {
	id, _, _ := s.Nodes.Make()
	for slot, k := range at {
		s.Nodes.Set(id, slot, k)
	}
	return s.NodeKey(id, height)
}

func lacking(k api.Key, rights int) api.Key {
	k.Rights = rights
	return k
}

// P9.1: how many words a memory has.
func TestSize(t *testing.T) {
	for _, x := range []struct {
		k    api.Key
		size uint32
		ok   bool
	}{
		{api.Key{Kind: api.Page, ID: 9, Rights: 7}, 32, true},
		{api.Key{Kind: api.Node, Data: 0}, 0, false}, {api.Key{Kind: api.Node, Data: 1}, 512, true}, {api.Key{Kind: api.Node, Data: 2}, 8192, true},
		{api.Key{Kind: api.Node, Data: 3}, 131072, true}, {api.Key{Kind: api.Node, Data: 4}, 2097152, true},
		{api.Key{Kind: api.Node, Data: 5}, 0, false}, {api.Key{Kind: api.Node, Data: math.MaxUint32}, 0, false},
		{api.Key{}, 0, false}, {key.Num(1), 0, false}, {api.Key{Kind: api.Start, Data: 1}, 0, false},
	} {
		if size, ok := path.Size(x.k); size != x.size || ok != x.ok {
			t.Error(x.k, size, ok)
		}
	}
}

func walks(t *testing.T, s *store.Store, root api.Key, addr uint32, want path.Place, fault int, nodes ...int) {
	t.Helper()
	if p, f := path.Walk(s, root, addr); p != want || f != fault {
		t.Errorf("Walk(%v, %d) = %v, %d, not %v, %d", root, addr, p, f, want, fault)
	}
	if l := path.Nodes(s, root, addr); !slices.Equal(l, nodes) {
		t.Errorf("Nodes(%v, %d) = %v, not %v", root, addr, l, nodes)
	}
}

// P9.1: a page as root.
func TestPageRoot(t *testing.T) {
	s := make1(t)
	page(s)
	p := page(s)
	walks(t, s, p, 0, path.Place{Page: 1}, 0)
	walks(t, s, p, 31, path.Place{Page: 1, At: 31}, 0)
	walks(t, s, p, 32, path.Place{}, api.FaultRange)
	walks(t, s, p, math.MaxUint32, path.Place{}, api.FaultRange)
}

// P9.1: slot by slot through nodes of each height.
func TestDeep(t *testing.T) {
	s := make1(t)
	p := page(s)
	one := node(s, 1, map[int]api.Key{0: p, 15: p})
	two := node(s, 2, map[int]api.Key{3: one})
	three := node(s, 3, map[int]api.Key{15: two})
	four := node(s, 4, map[int]api.Key{1: three})
	addr := uint32(1*131072 + 15*8192 + 3*512 + 15*32 + 7)
	walks(t, s, four, addr, path.Place{Page: 0, At: 7}, 0, 3, 2, 1, 0)
	walks(t, s, three, addr-131072, path.Place{Page: 0, At: 7}, 0, 2, 1, 0)
	walks(t, s, one, 31, path.Place{Page: 0, At: 31}, 0, 0)
	walks(t, s, one, 32, path.Place{}, api.FaultVoid, 0)
	walks(t, s, four, 0, path.Place{}, api.FaultVoid, 3)
	walks(t, s, four, 2097152, path.Place{}, api.FaultRange)
	walks(t, s, four, 2097151, path.Place{}, api.FaultVoid, 3)
}

// P9.1: a memory that is smaller than its slot.
func TestSmaller(t *testing.T) {
	s := make1(t)
	p := page(s)
	one := node(s, 1, map[int]api.Key{0: p})
	three := node(s, 3, map[int]api.Key{0: one, 1: p})
	walks(t, s, three, 5, path.Place{Page: 0, At: 5}, 0, 1, 0)
	walks(t, s, three, 512, path.Place{}, api.FaultRange, 1)
	walks(t, s, three, 8192+31, path.Place{Page: 0, At: 31}, 0, 1)
	walks(t, s, three, 8192+32, path.Place{}, api.FaultRange, 1)
}

// P9.1: what isn't live, or is no memory, ahead of the other faults.
func TestFaultVoid(t *testing.T) {
	s := make1(t)
	p := page(s)
	dead := page(s)
	s.Pages.Give(dead.ID)
	n := node(s, 1, map[int]api.Key{0: dead, 1: key.Num(1), 2: {Kind: api.Domain}, 3: {Kind: api.Node}, 4: p})
	for slot := range uint32(4) {
		walks(t, s, n, slot*32, path.Place{}, api.FaultVoid, 0)
	}
	gone := node(s, 1, nil)
	s.Nodes.Give(gone.ID)
	for _, k := range []api.Key{{}, key.Num(1), dead, gone, {Kind: api.Node, ID: n.ID}, {Kind: api.Node, ID: n.ID, Data: 5}, {Kind: api.Node, ID: -1, Data: 1}, {Kind: api.Page, ID: 99}, {Kind: 15}} {
		walks(t, s, k, math.MaxUint32, path.Place{}, api.FaultVoid)
	}
}

// P9.1: a node that is not lower than the one it was found in, ahead of the range.
func TestFaultDepth(t *testing.T) {
	s := make1(t)
	n := node(s, 1, nil)
	s.Nodes.Set(n.ID, 0, s.NodeKey(n.ID, 1))
	s.Nodes.Set(n.ID, 1, s.NodeKey(n.ID, 2))
	s.Nodes.Set(n.ID, 2, s.NodeKey(n.ID, 4))
	walks(t, s, s.NodeKey(n.ID, 1), 0, path.Place{}, api.FaultDepth, n.ID)
	walks(t, s, s.NodeKey(n.ID, 1), 32, path.Place{}, api.FaultDepth, n.ID)
	walks(t, s, s.NodeKey(n.ID, 2), 0, path.Place{}, api.FaultDepth, n.ID, n.ID)
	small := node(s, 4, map[int]api.Key{0: node(s, 1, nil)})
	s.Nodes.Set(n.ID, 3, s.NodeKey(small.ID, 1))
	walks(t, s, s.NodeKey(n.ID, 1), 96+31, path.Place{}, api.FaultDepth, n.ID)
}

// P9.1: read-only, if one key on the way lacks ReadOnly or Weak; NoCall is nothing.
func TestReadOnly(t *testing.T) {
	for rights := range 8 {
		ro := rights&(api.ReadOnly|api.Weak) != 0
		s := make1(t)
		p := page(s)
		one := node(s, 1, map[int]api.Key{0: p, 1: lacking(p, rights)})
		two := node(s, 2, map[int]api.Key{0: one, 1: lacking(one, rights)})
		walks(t, s, lacking(p, rights), 1, path.Place{At: 1, RO: ro}, 0)
		walks(t, s, two, 32, path.Place{RO: ro}, 0, 1, 0)
		walks(t, s, two, 512, path.Place{RO: ro}, 0, 1, 0)
		walks(t, s, lacking(two, rights), 0, path.Place{RO: ro}, 0, 1, 0)
		walks(t, s, two, 0, path.Place{}, 0, 1, 0)
	}
}

// P9.1: the keys in the slots are taken as they stand, behind a weak one too.
func TestKeysAsTheyStand(t *testing.T) {
	s := make1(t)
	p := page(s)
	one := node(s, 1, map[int]api.Key{0: lacking(p, api.NoCall)})
	walks(t, s, lacking(one, api.NoCall), 3, path.Place{At: 3}, 0, 0)
	walks(t, s, lacking(one, api.Weak), 3, path.Place{At: 3, RO: true}, 0, 0)
}
