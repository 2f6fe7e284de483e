package sys_test

import (
	"math"
	"slices"
	"testing"

	"turnkey/api"
	"turnkey/key"
	"turnkey/sys"
)

var sizes = sys.Sizes{Nodes: 8, Pages: 7, Domains: 6, Meters: 5, Banks: 4, Makers: 3}

func make1(t *testing.T) *sys.System {
	t.Helper()
	s, err := sys.New(sizes)
	if err != nil {
		t.Fatal(err)
	}
	return s
}

// a system with an object of each kind, at place 1, of version 1.
func filled(t *testing.T) *sys.System {
	t.Helper()
	s := make1(t)
	s.Banks.Root(100)
	s.Meters.Make(-1, 9)
	s.Makers.Make()
	s.Makers.Seal(0)
	for range 2 {
		s.Banks.Sub(0, 50)
		s.Meters.Make(0, 5)
		s.Banks.End(1)
		s.Meters.End(1)
	}
	s.Banks.Sub(0, 50)
	s.Meters.Make(0, 5)
	s.Makers.Make()
	for range 2 {
		s.Banks.Node(0)
		s.Banks.Page(0)
		s.Banks.Domain(0)
	}
	return s
}

func setState(s *sys.System, id, state, wait int) {
	d, _ := s.Domains.Get(id)
	d.State, d.Wait = state, wait
	s.Domains.Put(id, d)
}

// P21.1: the errors of below, and all empty.
func TestNew(t *testing.T) {
	for i := range 6 {
		for _, n := range []int{0, -1, 257} {
			z := sizes
			*[]*int{&z.Nodes, &z.Pages, &z.Domains, &z.Meters, &z.Banks, &z.Makers}[i] = n
			if s, err := sys.New(z); s != nil || err != api.ErrRange {
				t.Error(z, err)
			}
		}
	}
	s := make1(t)
	if s.Nodes.Cap() != 8 || s.Pages.Cap() != 7 || s.Domains.Cap() != 6 || s.Meters.Cap() != 5 || s.Banks.Cap() != 4 || s.Makers.Cap() != 3 {
		t.Error("sizes")
	}
	if s.Nodes.Used()+s.Pages.Used()+s.Domains.Used()+s.Meters.Used()+s.Banks.Arena.Used()+s.Makers.Used()+s.Ready.Len()+len(s.In)+len(s.Out)+s.Steps != 0 {
		t.Error("it isn't empty")
	}
	for kind := api.Node; kind <= api.Builder; kind++ {
		if s.Live(api.Key{Kind: kind}) {
			t.Error(kind)
		}
	}
}

// P21.1: which keys are live, kind by kind.
func TestLive(t *testing.T) {
	s := filled(t)
	setState(s, 1, api.Waiting, 7)
	for _, x := range []struct {
		k    api.Key
		want bool
	}{
		{api.Key{}, true}, {key.Num(5), true}, {api.Key{Kind: api.Creator}, true}, {api.Key{Kind: api.Judge}, true}, {api.Key{Kind: api.Console}, true}, {api.Key{Kind: api.Clock}, true},
		{api.Key{Kind: 15}, false}, {api.Key{Kind: -1}, false},
		{api.Key{Kind: api.Node, ID: 1, Data: 3}, true}, {api.Key{Kind: api.Node, ID: 2}, false}, {api.Key{Kind: api.Node, ID: 1, Ver: 1}, false},
		{api.Key{Kind: api.Page, ID: 1}, true}, {api.Key{Kind: api.Page, ID: 2}, false},
		{api.Key{Kind: api.Domain, ID: 1}, true}, {api.Key{Kind: api.Domain, ID: 1, Ver: 1}, false}, {api.Key{Kind: api.Domain, ID: 2}, false},
		{api.Key{Kind: api.Start, ID: 1, Data: 99}, true}, {api.Key{Kind: api.Start, ID: 1, Ver: 1}, false}, {api.Key{Kind: api.Start, ID: 2}, false},
		{api.Key{Kind: api.Resume, ID: 1, Data: 7}, true}, {api.Key{Kind: api.Resume, ID: 1, Data: 6}, false}, {api.Key{Kind: api.Resume, ID: 1, Ver: 1, Data: 7}, false}, {api.Key{Kind: api.Resume}, false}, {api.Key{Kind: api.Resume, ID: 2}, false},
		{api.Key{Kind: api.Meter, ID: 1, Ver: 2}, true}, {api.Key{Kind: api.Meter, ID: 1}, false}, {api.Key{Kind: api.Meter, ID: -1}, false},
		{api.Key{Kind: api.Bank, ID: 1, Ver: 2}, true}, {api.Key{Kind: api.Bank, ID: 1}, false}, {api.Key{Kind: api.Bank, ID: 3}, false},
		{api.Key{Kind: api.Maker}, true}, {api.Key{Kind: api.Maker, ID: 1}, false}, {api.Key{Kind: api.Maker, ID: 2}, false}, {api.Key{Kind: api.Maker, Ver: 1}, false},
		{api.Key{Kind: api.Builder}, false}, {api.Key{Kind: api.Builder, ID: 1}, true}, {api.Key{Kind: api.Builder, ID: 2}, false}, {api.Key{Kind: api.Builder, ID: math.MaxInt}, false},
	} {
		if s.Live(x.k) != x.want {
			t.Error(x)
		}
		want := api.Key{}
		if x.want {
			want = x.k
		}
		if got := s.Seen(x.k); got != want {
			t.Error(x, got)
		}
	}
	setState(s, 1, api.Running, 7)
	if s.Live(api.Key{Kind: api.Resume, ID: 1, Data: 7}) {
		t.Error("it waits no more")
	}
}

// P21.1: what is not valid is seen as a Void, live or not.
func TestSeenValid(t *testing.T) {
	s := filled(t)
	for _, k := range []api.Key{{ID: 1}, {Kind: api.Number, Ver: 1}, {Kind: api.Clock, Data: 1}, {Kind: api.Node, Rights: 8}, {Kind: api.Node, Data: 5}, {Kind: api.Start, Data: api.MaxData + 1}} {
		if !s.Live(k) {
			t.Error(k)
		}
		if got := s.Seen(k); got != (api.Key{}) {
			t.Error(k, got)
		}
	}
}

// P21.1: keys to objects as they are now.
func TestKey(t *testing.T) {
	s := filled(t)
	setState(s, 1, api.Waiting, 7)
	for _, x := range []struct {
		kind, id int
		want     api.Key
	}{
		{api.Node, 1, api.Key{Kind: api.Node, ID: 1}}, {api.Page, 1, api.Key{Kind: api.Page, ID: 1}}, {api.Domain, 1, api.Key{Kind: api.Domain, ID: 1}},
		{api.Resume, 1, api.Key{Kind: api.Resume, ID: 1, Data: 7}}, {api.Resume, 0, api.Key{}},
		{api.Meter, 1, api.Key{Kind: api.Meter, ID: 1, Ver: 2}}, {api.Bank, 1, api.Key{Kind: api.Bank, ID: 1, Ver: 2}},
		{api.Maker, 0, api.Key{Kind: api.Maker}}, {api.Maker, 1, api.Key{}}, {api.Builder, 0, api.Key{}}, {api.Builder, 1, api.Key{Kind: api.Builder, ID: 1}},
		{api.Creator, 0, api.Key{Kind: api.Creator}}, {api.Judge, 0, api.Key{Kind: api.Judge}}, {api.Console, 0, api.Key{Kind: api.Console}}, {api.Clock, 0, api.Key{Kind: api.Clock}},
		{api.Void, 0, api.Key{}}, {api.Number, 0, api.Key{}}, {api.Start, 1, api.Key{}}, {15, 0, api.Key{}}, {-1, 0, api.Key{}},
	} {
		if got := s.Key(x.kind, x.id); got != x.want {
			t.Error(x, got)
		}
	}
	for kind := api.Node; kind <= api.Builder; kind++ {
		for _, id := range []int{-1, 3, 99, math.MaxInt, math.MinInt} {
			if got := s.Key(kind, id); got != (api.Key{}) {
				t.Error(kind, id, got)
			}
		}
	}
}

// P21.1: all keys of those domains that are there, as they are.
func TestKeys(t *testing.T) {
	s := filled(t)
	d, _ := s.Domains.Get(1)
	for i := range d.Keys {
		d.Keys[i] = key.Num(uint32(i))
	}
	d.Mem, d.Meter, d.Keeper = api.Key{Kind: api.Page, ID: 6}, key.Num(17), key.Num(18)
	s.Domains.Put(1, d)
	one := append(slices.Clone(d.Keys[:]), d.Mem, d.Meter, d.Keeper)
	if got := s.Keys(5, 1, -1, 0, 1); !slices.Equal(got, slices.Concat(one, make([]api.Key, 19), one)) {
		t.Error(got)
	}
	if len(s.Keys()) != 0 || len(s.Keys(2, 99)) != 0 {
		t.Error("of none")
	}
}

// P21.1: a copy goes its own way in all that a system has.
func TestCopy(t *testing.T) {
	s := filled(t)
	s.Ready.Put(1)
	s.In, s.Out, s.Steps = []uint32{1}, []uint32{2}, 5
	c := s.Copy()
	if !slices.Equal(c.Ready.All(), []int{1}) || !slices.Equal(c.In, s.In) || !slices.Equal(c.Out, s.Out) || c.Steps != 5 || !c.Live(s.Key(api.Bank, 1)) || !c.Live(s.Key(api.Meter, 1)) || !c.Live(s.Key(api.Builder, 1)) {
		t.Error("it isn't the same")
	}
	c.Ready.Put(0)
	c.In[0], c.Out[0], c.Steps = 8, 8, 8
	c.Set(0, 0, key.Num(1))
	c.Pages.Write(0, 0, 9)
	setState(c, 0, api.Halted, 3)
	c.Meters.Add(5, 0)
	c.Makers.Seal(1)
	c.Banks.End(0)
	if s.Ready.Len() != 1 || s.In[0] != 1 || s.Out[0] != 2 || s.Steps != 5 {
		t.Error("they share")
	}
	k, _ := s.Nodes.Get(0, 0)
	w, _ := s.Pages.Read(0, 0)
	d, _ := s.Domains.Get(0)
	if k != (api.Key{}) || w != 0 || d.State != api.Available || s.Meters.Ticks(0) != 9 || s.Makers.Sealed(1) || !s.Banks.There(0) || s.Nodes.Used() != 2 || s.Domains.Used() != 2 {
		t.Error("they share objects")
	}
}

// P21.1: the memory's calls, and by it the store's, are the system's.
func TestPromoted(t *testing.T) {
	s := filled(t)
	root := s.NodeKey(0, 1)
	if was, err := s.Swap(root, 0, s.PageKey(0)); was != (api.Key{}) || err != nil {
		t.Error(was, err)
	}
	if f := s.Save(root, 3, 7); f != 0 {
		t.Error(f)
	}
	if w, err := s.Peek(s.PageKey(0), 3); w != 7 || err != nil {
		t.Error(w, err)
	}
}
