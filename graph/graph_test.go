package graph_test

import (
	"slices"
	"testing"

	"turnkey/api"
	"turnkey/dom"
	"turnkey/graph"
	"turnkey/key"
	"turnkey/right"
	"turnkey/sys"
)

func make1(t *testing.T) *sys.System {
	t.Helper()
	s, err := sys.New(sys.Sizes{Nodes: 256, Pages: 16, Domains: 8, Meters: 4, Banks: 8, Makers: 4})
	if err != nil {
		t.Fatal(err)
	}
	return s
}

func change(s *sys.System, id int, by func(d *dom.Domain)) {
	d, _ := s.Domains.Get(id)
	by(&d)
	s.Domains.Put(id, d)
}

func same(t *testing.T, got []api.Key, want ...api.Key) {
	t.Helper()
	if !slices.Equal(got, want) {
		t.Errorf("%v, not %v", got, want)
	}
}

func lacking(k api.Key, rights int) api.Key {
	k.Rights = rights
	return k
}

var console = api.Key{Kind: api.Console}

// P25.1: an empty system.
func TestEmpty(t *testing.T) {
	s := make1(t)
	if len(graph.Edges(s)) != 0 || len(graph.From(s)) != 0 || len(graph.From(s, api.Key{}, api.Key{Kind: api.Page})) != 0 {
		t.Error("an edge")
	}
	for _, bank := range []int{0, -1, 99} {
		if len(graph.Inside(s, bank))+len(graph.Out(s, bank))+len(graph.In(s, bank)) != 0 {
			t.Error(bank)
		}
	}
}

// P25.1: all keys that are live, by who has them.
func TestEdges(t *testing.T) {
	s := make1(t)
	s.Pages.Make()
	dead := api.Key{Kind: api.Page, ID: 1}
	s.Nodes.Make(key.Num(1), dead, s.PageKey(0))
	s.Nodes.Make()
	s.Nodes.Make(api.Key{Kind: api.Node, ID: 1, Data: 4})
	s.Nodes.Give(1)
	s.Nodes.Set(0, 15, console)
	s.Domains.Make()
	s.Domains.Make()
	change(s, 1, func(d *dom.Domain) {
		d.Keys[15], d.Keys[0], d.Mem, d.Meter, d.Keeper = key.Num(2), s.Domains.Door(0, 7), s.PageKey(0), dead, key.Num(3)
	})
	s.Makers.Make()
	s.Makers.Make()
	s.Makers.Install(1, 5, key.Num(4))
	s.Makers.Install(0, 2, console)
	s.Makers.Seal(0)
	want := []graph.Edge{
		{Kind: api.Node, ID: 0, To: key.Num(1)}, {Kind: api.Node, ID: 0, To: s.PageKey(0)}, {Kind: api.Node, ID: 0, To: console},
		{Kind: api.Domain, ID: 1, To: s.Domains.Door(0, 7)}, {Kind: api.Domain, ID: 1, To: key.Num(2)}, {Kind: api.Domain, ID: 1, To: s.PageKey(0)}, {Kind: api.Domain, ID: 1, To: key.Num(3)},
		{Kind: api.Maker, ID: 0, To: console}, {Kind: api.Maker, ID: 1, To: key.Num(4)},
	}
	if got := graph.Edges(s); !slices.Equal(got, want) {
		t.Error(got)
	}
}

// P25.1: what does something.
func TestAuthority(t *testing.T) {
	for kind := api.Void; kind <= api.Clock; kind++ {
		want := kind != api.Void && kind != api.Number && kind != api.Judge && kind != api.Clock
		if graph.Authority(api.Key{Kind: kind}) != want {
			t.Error(kind)
		}
		for rights := range 8 {
			k := api.Key{Kind: kind, Rights: rights}
			if want && graph.Authority(k) == right.Sensory(k) {
				t.Error(k)
			}
		}
	}
}

// P25.1: keys in the order in which they are met, of each kind.
func TestFrom(t *testing.T) {
	s := make1(t)
	s.Pages.Make()
	s.Domains.Make()
	s.Domains.Make()
	s.Makers.Make()
	s.Makers.Make()
	s.Makers.Seal(1)
	s.Nodes.Make(s.PageKey(0), s.Domains.Door(0, 5), api.Key{Kind: api.Page, ID: 9}, key.Num(1))
	change(s, 0, func(d *dom.Domain) {
		d.Keys[3], d.Mem, d.Meter, d.Keeper = key.Num(2), s.NodeKey(0, 1), key.Num(1), api.Key{Kind: api.Builder}
	})
	s.Makers.Install(0, 1, api.Key{Kind: api.Maker, ID: 1})
	change(s, 1, func(d *dom.Domain) { d.State, d.Wait, d.Keys[0] = api.Waiting, 3, key.Num(9) })
	n := s.NodeKey(0, 0)
	same(t, graph.From(s, n), n, s.PageKey(0), s.Domains.Door(0, 5), key.Num(1), s.Domains.Key(0), key.Num(2), s.NodeKey(0, 1), api.Key{Kind: api.Builder}, api.Key{Kind: api.Maker, ID: 1})
	weak := lacking(n, api.Weak)
	same(t, graph.From(s, weak, weak), weak, lacking(s.PageKey(0), 5), key.Num(1))
	ro := lacking(n, api.ReadOnly|api.NoCall)
	if got := graph.From(s, ro); len(got) != 9 || got[1] != s.PageKey(0) {
		t.Error(got)
	}
	same(t, graph.From(s, s.Domains.Resume(1)), s.Domains.Resume(1), s.Domains.Key(1), key.Num(9))
	same(t, graph.From(s, api.Key{}, key.Num(5), api.Key{Kind: api.Resume, ID: 1, Data: 4}, console, key.Num(5), s.PageKey(0)), key.Num(5), console, s.PageKey(0))
}

// P25.1: those that are given come first.
func TestFromGivenFirst(t *testing.T) {
	s := make1(t)
	s.Nodes.Make(key.Num(1), key.Num(2))
	same(t, graph.From(s, s.NodeKey(0, 0), key.Num(3), key.Num(2)), s.NodeKey(0, 0), key.Num(3), key.Num(2), key.Num(1))
}

// P25.1: no more than so many are told.
func TestFromMost(t *testing.T) {
	s := make1(t)
	var roots []api.Key
	for id := range 256 {
		s.Nodes.Make()
		for slot := range 16 {
			s.Nodes.Set(id, slot, key.Num(uint32(16*id+slot)))
		}
		roots = append(roots, s.NodeKey(id, 0))
	}
	got := graph.From(s, roots...)
	if len(got) != 4096 || got[255] != roots[255] || got[256] != key.Num(0) || got[4095] != key.Num(3839) {
		t.Error(len(got))
	}
	if got := graph.From(s, roots[:240]...); len(got) != 240+3840 {
		t.Error(len(got))
	}
	var many []api.Key
	for i := range uint32(5000) {
		many = append(many, key.Num(i))
	}
	if got := graph.From(s, many...); !slices.Equal(got, many[:4096]) {
		t.Error(len(got))
	}
}

// banks 1 and 2 within it, 3 beside: a node, a page and a domain of each of 1, 2 and 3.
func banks(t *testing.T) *sys.System {
	s := make1(t)
	s.Banks.Root(500)
	s.Banks.Sub(0, 100)
	s.Banks.Sub(1, 100)
	s.Banks.Sub(0, 100)
	for bank := 3; bank > 0; bank-- {
		s.Banks.Node(bank)
		s.Banks.Page(bank)
		s.Banks.Domain(bank)
	}
	return s
}

// P25.2: what is owned, by numbers of the banks.
func TestInside(t *testing.T) {
	s := banks(t)
	s.Banks.Node(1)
	same(t, graph.Inside(s, 1), s.NodeKey(2, 0), s.NodeKey(3, 0), s.PageKey(2), s.Domains.Key(2), s.NodeKey(1, 0), s.PageKey(1), s.Domains.Key(1))
	same(t, graph.Inside(s, 3), s.NodeKey(0, 0), s.PageKey(0), s.Domains.Key(0))
	if len(graph.Inside(s, 0)) != 10 || len(graph.Inside(s, 4)) != 0 || len(graph.Inside(s, -1)) != 0 {
		t.Error(graph.Inside(s, 0))
	}
}

// P25.2: keys out of a bank, and into it.
func TestOutIn(t *testing.T) {
	s := banks(t)
	s.Pages.Make()
	free := s.PageKey(3)
	change(s, 0, func(d *dom.Domain) { d.State, d.Wait = api.Waiting, 2 })
	s.Nodes.Set(2, 0, s.PageKey(0))
	s.Nodes.Set(2, 1, lacking(s.PageKey(0), 5))
	s.Nodes.Set(2, 2, lacking(s.PageKey(0), 1))
	s.Nodes.Set(2, 3, s.PageKey(1))
	s.Nodes.Set(2, 4, console)
	s.Nodes.Set(2, 5, s.Key(api.Bank, 0))
	s.Nodes.Set(2, 6, free)
	s.Nodes.Set(1, 0, s.PageKey(0))
	s.Nodes.Set(1, 1, s.NodeKey(0, 2))
	change(s, 2, func(d *dom.Domain) {
		d.Keys[0], d.Keys[1], d.Keys[2], d.Keeper = s.Domains.Key(0), s.Domains.Door(0, 3), s.Domains.Resume(0), s.Domains.Door(1, 1)
	})
	out := []api.Key{s.PageKey(0), s.NodeKey(0, 2), lacking(s.PageKey(0), 1), free, s.Domains.Key(0), s.Domains.Door(0, 3), s.Domains.Resume(0)}
	same(t, graph.Out(s, 1), out...)
	same(t, graph.Out(s, 2), s.PageKey(0), s.NodeKey(0, 2))
	same(t, graph.Out(s, 0), free)
	same(t, graph.In(s, 1))
	same(t, graph.In(s, 2), s.PageKey(1), s.Domains.Door(1, 1))
	same(t, graph.In(s, 3), out[0], out[1], out[2], out[4], out[5], out[6])
	s.Makers.Make()
	s.Makers.Install(0, 0, s.Domains.Key(2))
	s.Nodes.Make(s.Domains.Door(2, 9), s.PageKey(0), lacking(s.PageKey(1), 5))
	same(t, graph.In(s, 1), s.Domains.Door(2, 9), s.Domains.Key(2))
	same(t, graph.Out(s, 1), out...)
}
