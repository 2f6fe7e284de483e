package object_test

import (
	"math"
	"slices"
	"testing"

	"turnkey/api"
	"turnkey/dom"
	"turnkey/key"
	"turnkey/object"
	"turnkey/right"
	"turnkey/sys"
)

// a system with a bank of limit 20, a bank of limit 10 within it, a meter of 100, and a node, page and domain of the first bank.
func make1(t *testing.T) *sys.System {
	t.Helper()
	s, err := sys.New(sys.Sizes{Nodes: 6, Pages: 6, Domains: 6, Meters: 4, Banks: 4, Makers: 3})
	if err != nil {
		t.Fatal(err)
	}
	s.Banks.Root(20)
	s.Banks.Sub(0, 10)
	s.Meters.Make(-1, 100)
	s.Banks.Node(0, key.Num(70), api.Key{Kind: api.Start}, api.Key{Kind: api.Page, ID: 5})
	s.Banks.Page(0, 80, 81)
	s.Banks.Domain(0)
	return s
}

func note(order uint32, words []uint32, keys ...api.Key) api.Note {
	n := api.Note{Order: order, Keys: key.Row(keys...)}
	copy(n.Words[:], words)
	return n
}

func w(l ...uint32) []uint32 { return l }

func asks(t *testing.T, s *sys.System, k api.Key, n api.Note, want api.Note) {
	t.Helper()
	if got, ok := object.Answer(s, k, n); !ok || got != want {
		t.Errorf("%s, %v: %v, %v, not %v", key.Text(k), n, got, ok, want)
	}
}

func fails(t *testing.T, s *sys.System, k api.Key, n api.Note, number uint32) {
	t.Helper()
	asks(t, s, k, n, api.Note{Order: number})
}

func lacking(k api.Key, rights int) api.Key {
	k.Rights = rights
	return k
}

func get(s *sys.System, id int) dom.Domain {
	d, _ := s.Domains.Get(id)
	return d
}

func setState(s *sys.System, id, state int) {
	d := get(s, id)
	d.State = state
	s.Domains.Put(id, d)
}

// P22.1: who answers, and the kinds.
func TestWhoAnswers(t *testing.T) {
	s := make1(t)
	setState(s, 0, api.Waiting)
	for _, k := range []api.Key{s.Domains.Door(0, 5), s.Domains.Resume(0)} {
		if got, ok := object.Answer(s, k, note(0, w(1))); ok || got != (api.Note{}) {
			t.Error(k, got, ok)
		}
	}
	for _, k := range []api.Key{{}, {Kind: api.Start, ID: 3}, {Kind: api.Start, Ver: 1}, {Kind: api.Resume, Data: 1}, {Kind: api.Node, ID: 4}, {Kind: api.Maker}, {Kind: api.Builder}, {Kind: 15}, {Kind: api.Node, Data: 5}, {Kind: api.Clock, Data: 1}, {Kind: api.Bank, ID: 3}} {
		fails(t, s, k, note(0, nil), api.BadKey)
		fails(t, s, k, note(99, w(99)), api.BadKey)
	}
	if got := object.Kinds(); !slices.Equal(got, []int{1, 2, 3, 4, 7, 8, 9, 10, 11, 12, 13, 14}) {
		t.Error(got)
	}
	object.Kinds()[0] = 9
	if object.Kinds()[0] != 1 || object.Needs() != 4 {
		t.Error("Kinds, Needs")
	}
}

// P22.1: an order that a kind has not.
func TestBadOrder(t *testing.T) {
	s := make1(t)
	s.Makers.Make()
	s.Makers.Make()
	s.Makers.Seal(1)
	for _, x := range []struct {
		k      api.Key
		orders uint32 // how many it has, from 0 on
	}{
		{key.Num(1), 1}, {s.NodeKey(0, 0), 5}, {s.Domains.Key(0), 10}, {s.Key(api.Meter, 0), 3}, {s.Key(api.Bank, 1), 7},
		{api.Key{Kind: api.Creator}, 1}, {s.Key(api.Builder, 0), 3}, {s.Key(api.Maker, 1), 2}, {api.Key{Kind: api.Judge}, 3}, {api.Key{Kind: api.Console}, 2}, {api.Key{Kind: api.Clock}, 1},
	} {
		for _, order := range []uint32{x.orders, x.orders + 1, 1000, math.MaxUint32} {
			fails(t, s, x.k, note(order, w(1, 1, 1)), api.BadOrder)
		}
	}
	for _, order := range []uint32{3, 5, math.MaxUint32} {
		fails(t, s, lacking(s.PageKey(0), 7), note(order, nil), api.BadOrder)
	}
}

// P22.1: a Number tells its word, a Clock the steps.
func TestNumberClock(t *testing.T) {
	s := make1(t)
	asks(t, s, key.Num(math.MaxUint32), note(0, nil), note(0, w(math.MaxUint32)))
	asks(t, s, api.Key{Kind: api.Clock}, note(0, nil), note(0, w(0)))
	s.Steps = 1<<32 + 7
	asks(t, s, api.Key{Kind: api.Clock}, note(0, nil), note(0, w(7)))
}

// P22.1: a node's slots.
func TestNodeSlots(t *testing.T) {
	s := make1(t)
	n := s.NodeKey(0, 2)
	asks(t, s, n, note(0, w(0)), note(0, nil, key.Num(70)))
	asks(t, s, n, note(0, w(1)), note(0, nil, api.Key{Kind: api.Start}))
	asks(t, s, n, note(0, w(2)), note(0, nil))
	asks(t, s, lacking(n, api.Weak), note(0, w(1)), note(0, nil))
	asks(t, s, n, note(1, w(0), s.PageKey(0)), note(0, nil, key.Num(70)))
	asks(t, s, n, note(1, w(2), api.Key{Kind: api.Page, ID: 4}), note(0, nil))
	if l := s.Nodes.All(0); l[0] != s.PageKey(0) || l[2] != (api.Key{}) {
		t.Error(l)
	}
	for _, order := range []uint32{0, 1} {
		for _, slot := range []uint32{16, 1 << 31, math.MaxUint32} {
			fails(t, s, n, note(order, w(slot)), api.BadArg)
			fails(t, s, lacking(n, api.NoCall), note(order, w(slot)), api.NoRight)
		}
	}
	for _, rights := range []int{api.ReadOnly, api.Weak, api.NoCall} {
		fails(t, s, lacking(n, rights), note(1, w(0), key.Num(1)), api.NoRight)
	}
	if l := s.Nodes.All(0); l[0] != s.PageKey(0) {
		t.Error(l)
	}
}

// P22.1: a slot is swapped by way of the memory.
func TestSwapForgetsWays(t *testing.T) {
	s := make1(t)
	s.Banks.Page(0, 90)
	n := s.NodeKey(0, 1)
	s.Set(0, 0, s.PageKey(0))
	if x, f := s.Load(n, 0); x != 80 || f != 0 {
		t.Fatal(x, f)
	}
	asks(t, s, n, note(1, w(0), s.PageKey(1)), note(0, nil, s.PageKey(0)))
	if x, f := s.Load(n, 0); x != 90 || f != 0 {
		t.Error(x, f)
	}
}

// P22.1: keys to nodes and pages that give less.
func TestLessened(t *testing.T) {
	s := make1(t)
	for _, k := range []api.Key{s.NodeKey(0, 3), s.PageKey(0)} {
		for have := range 8 {
			for take := range uint32(8) {
				asks(t, s, lacking(k, have), note(2, w(take)), note(0, nil, lacking(k, have|int(take))))
			}
			asks(t, s, lacking(k, have), note(4, w(99)), note(0, nil, right.Weaken(lacking(k, have))))
		}
		for _, bad := range []uint32{8, math.MaxUint32} {
			fails(t, s, k, note(2, w(bad)), api.BadArg)
		}
	}
	for height := range uint32(5) {
		want := lacking(s.NodeKey(0, int(height)), 5)
		asks(t, s, lacking(s.NodeKey(0, 3), 5), note(3, w(height)), note(0, nil, want))
	}
	for _, height := range []uint32{5, 1 << 31, math.MaxUint32} {
		fails(t, s, s.NodeKey(0, 1), note(3, w(height)), api.BadArg)
	}
}

// P22.1: a page's words.
func TestPageWords(t *testing.T) {
	s := make1(t)
	p := s.PageKey(0)
	asks(t, s, p, note(0, w(1)), note(0, w(81)))
	asks(t, s, p, note(1, w(31, 5)), note(0, nil))
	asks(t, s, lacking(p, api.ReadOnly), note(0, w(31)), note(0, w(5)))
	for _, order := range []uint32{0, 1} {
		for _, at := range []uint32{32, math.MaxUint32} {
			fails(t, s, p, note(order, w(at, 1)), api.BadArg)
			fails(t, s, lacking(p, api.NoCall), note(order, w(at, 1)), api.NoRight)
		}
	}
	for _, rights := range []int{api.ReadOnly, api.Weak} {
		fails(t, s, lacking(p, rights), note(1, w(0, 9)), api.NoRight)
	}
	if x := s.Pages.Words(0); x[0] != 80 || x[31] != 5 {
		t.Error(x)
	}
}

// P22.1: what a domain has, laid and told.
func TestDomainParts(t *testing.T) {
	s := make1(t)
	d := s.Domains.Key(0)
	asks(t, s, d, note(0, w(api.MaxData)), note(0, nil, s.Domains.Door(0, api.MaxData)))
	fails(t, s, d, note(0, w(api.MaxData+1)), api.BadArg)
	asks(t, s, d, note(1, w(15), key.Num(5)), note(0, nil))
	asks(t, s, d, note(1, w(0), api.Key{Kind: api.Page, ID: 3}), note(0, nil))
	asks(t, s, d, note(2, w(15)), note(0, nil, key.Num(5)))
	for _, order := range []uint32{1, 2} {
		for _, at := range []uint32{16, 1 << 31, math.MaxUint32} {
			fails(t, s, d, note(order, w(at), key.Num(9)), api.BadArg)
		}
	}
	asks(t, s, d, note(3, nil, s.NodeKey(0, 1)), note(0, nil))
	asks(t, s, d, note(4, nil, s.Key(api.Meter, 0)), note(0, nil))
	asks(t, s, d, note(5, nil, s.Domains.Door(0, 3)), note(0, nil))
	asks(t, s, d, note(6, w(math.MaxUint32)), note(0, nil))
	x := get(s, 0)
	if x.Keys[15] != key.Num(5) || x.Keys[0] != (api.Key{}) || x.Mem != s.NodeKey(0, 1) || x.Meter != s.Key(api.Meter, 0) || x.Keeper != s.Domains.Door(0, 3) || x.PC != math.MaxUint32 || x.State != api.Available {
		t.Error(x)
	}
	x.Keys[3], x.Fault = api.Key{Kind: api.Page, ID: 3}, 4
	s.Domains.Put(0, x)
	asks(t, s, d, note(2, w(3)), note(0, nil))
	asks(t, s, d, note(8, nil), note(0, w(api.Available, math.MaxUint32, 4)))
}

// P22.1: a domain is started and halted, where it may be.
func TestDomainStates(t *testing.T) {
	for state := api.Available; state <= api.Halted; state++ {
		s := make1(t)
		s.Banks.Domain(0)
		s.Ready.Put(1)
		setState(s, 0, state)
		x := get(s, 0)
		x.Fault = 3
		s.Domains.Put(0, x)
		if state == api.Available || state == api.Halted {
			asks(t, s, s.Domains.Key(0), note(7, nil), note(0, nil))
			if x := get(s, 0); x.State != api.Running || x.Fault != 0 || !slices.Equal(s.Ready.All(), []int{1, 0}) {
				t.Error(state, x, s.Ready.All())
			}
		} else {
			fails(t, s, s.Domains.Key(0), note(7, nil), api.BadArg)
			if get(s, 0) != x || s.Ready.Has(0) {
				t.Error(state, get(s, 0))
			}
		}
		s.Ready.Put(0)
		setState(s, 0, state)
		if state == api.Available || state == api.Running {
			asks(t, s, s.Domains.Key(0), note(9, nil), note(0, nil))
			if get(s, 0).State != api.Halted || s.Ready.Has(0) {
				t.Error(state, get(s, 0))
			}
		} else {
			fails(t, s, s.Domains.Key(0), note(9, nil), api.BadArg)
			if get(s, 0).State != state || !s.Ready.Has(0) {
				t.Error(state, get(s, 0))
			}
		}
	}
}

// P22.1: a meter's ticks, and meters below it.
func TestMeter(t *testing.T) {
	s := make1(t)
	m := s.Key(api.Meter, 0)
	asks(t, s, m, note(0, nil), note(0, w(100)))
	asks(t, s, m, note(1, w(5)), note(0, nil))
	asks(t, s, m, note(0, nil), note(0, w(105)))
	for _, bad := range []uint32{api.MaxTicks + 1, math.MaxUint32} {
		fails(t, s, m, note(1, w(bad)), api.BadArg)
		fails(t, s, m, note(2, w(bad)), api.BadArg)
	}
	asks(t, s, m, note(1, w(api.MaxTicks)), note(0, nil))
	asks(t, s, m, note(0, nil), note(0, w(api.MaxTicks)))
	asks(t, s, m, note(2, w(7)), note(0, nil, api.Key{Kind: api.Meter, ID: 1}))
	if s.Meters.Parent(1) != 0 || s.Meters.Ticks(1) != 7 {
		t.Error(s.Meters.Parent(1))
	}
	asks(t, s, m, note(2, w(0)), note(0, nil, api.Key{Kind: api.Meter, ID: 2}))
	asks(t, s, m, note(2, w(api.MaxTicks)), note(0, nil, api.Key{Kind: api.Meter, ID: 3}))
	fails(t, s, m, note(2, w(0)), api.NoRoom)
}

// P22.1: too many meters within one another.
func TestMeterDepth(t *testing.T) {
	s, _ := sys.New(sys.Sizes{Nodes: 1, Pages: 1, Domains: 1, Meters: 20, Banks: 20, Makers: 1})
	s.Meters.Make(-1, 1)
	s.Banks.Root(1)
	for i := range 7 {
		asks(t, s, s.Key(api.Meter, i), note(2, w(1)), note(0, nil, api.Key{Kind: api.Meter, ID: i + 1}))
		asks(t, s, s.Key(api.Bank, i), note(2, w(1)), note(0, nil, api.Key{Kind: api.Bank, ID: i + 1}))
	}
	fails(t, s, s.Key(api.Meter, 7), note(2, w(1)), api.AtLimit)
	fails(t, s, s.Key(api.Bank, 7), note(2, w(1)), api.AtLimit)
}

// P22.1: what a bank gives.
func TestBankGives(t *testing.T) {
	s := make1(t)
	b := s.Key(api.Bank, 1)
	s.Pages.Write(0, 3, 9)
	s.Banks.Give(0, s.PageKey(0))
	asks(t, s, b, note(0, nil), note(0, nil, api.Key{Kind: api.Node, ID: 1}))
	asks(t, s, b, note(1, nil), note(0, nil, api.Key{Kind: api.Page, Ver: 1}))
	asks(t, s, b, note(6, nil), note(0, nil, api.Key{Kind: api.Domain, ID: 1}))
	asks(t, s, b, note(2, w(2)), note(0, nil, api.Key{Kind: api.Bank, ID: 2}))
	asks(t, s, b, note(5, nil), note(0, w(3, 10)))
	if !slices.Equal(s.Pages.Words(0), make([]uint32, 32)) || get(s, 1).State != api.Available {
		t.Error(s.Pages.Words(0))
	}
	for _, limit := range []uint32{api.MaxLimit + 1, 1 << 31, math.MaxUint32} {
		fails(t, s, b, note(2, w(limit)), api.BadArg)
	}
	asks(t, s, b, note(2, w(api.MaxLimit)), note(0, nil, api.Key{Kind: api.Bank, ID: 3}))
	fails(t, s, b, note(2, w(1)), api.NoRoom)
	for range 2 {
		object.Answer(s, s.Key(api.Bank, 2), note(0, nil))
	}
	for _, order := range []uint32{0, 1, 6} {
		fails(t, s, s.Key(api.Bank, 2), note(order, nil), api.AtLimit)
	}
	asks(t, s, b, note(5, nil), note(0, w(5, 10)))
	for range 2 {
		object.Answer(s, b, note(0, nil))
	}
	fails(t, s, b, note(0, nil), api.NoRoom)
}

// P22.1: what is given back to a bank.
func TestBankTakesBack(t *testing.T) {
	s := make1(t)
	b, in := s.Key(api.Bank, 0), s.Key(api.Bank, 1)
	for _, k := range []api.Key{s.NodeKey(0, 4), s.PageKey(0), s.Domains.Key(0)} {
		fails(t, s, in, note(3, nil, k), api.NotOwn)
		asks(t, s, b, note(3, nil, k), note(0, nil))
		fails(t, s, b, note(3, nil, k), api.BadArg)
	}
	for _, k := range []api.Key{{}, key.Num(0), in, {Kind: api.Console}} {
		fails(t, s, b, note(3, nil, k), api.BadArg)
	}
	asks(t, s, b, note(5, nil), note(0, w(0, 20)))
}

// domains 1 .. 3 of bank 1, 4 of bank 0, all of them Running and not ready.
func running(t *testing.T) *sys.System {
	s := make1(t)
	for range 3 {
		s.Banks.Domain(1)
	}
	s.Banks.Domain(0)
	for id := range 5 {
		setState(s, id, api.Running)
	}
	return s
}

// P22.1: who waited for a domain that is given back will ask again.
func TestGiveBackWakes(t *testing.T) {
	s := running(t)
	for _, who := range []int{3, 4, 0} {
		s.Domains.Stall(1, who)
	}
	setState(s, 4, api.Halted)
	s.Ready.Put(1, 2)
	d := s.Domains.Key(1)
	fails(t, s, s.Key(api.Bank, 0), note(3, nil, d), api.NotOwn)
	if !slices.Equal(s.Ready.All(), []int{1, 2}) || len(s.Domains.Callers(1)) != 3 {
		t.Error("a refusal changed something")
	}
	asks(t, s, s.Key(api.Bank, 1), note(3, nil, d), note(0, nil))
	if !slices.Equal(s.Ready.All(), []int{2, 3, 0}) {
		t.Error(s.Ready.All())
	}
}

// P22.1: a bank ends: who was its is not ready, who waited for those is, bank by bank.
func TestEndBank(t *testing.T) {
	s := running(t)
	s.Banks.Sub(1, 5)
	s.Banks.Domain(2)
	setState(s, 5, api.Running)
	s.Banks.Give(1, s.Domains.Key(2))
	s.Banks.Domain(0)
	setState(s, 2, api.Running)
	s.Domains.Stall(5, 2)
	s.Domains.Stall(3, 0)
	s.Domains.Stall(1, 4)
	s.Domains.Stall(1, 3)
	s.Ready.Put(5, 1)
	asks(t, s, s.Key(api.Bank, 1), note(4, nil), note(0, w(3)))
	if !slices.Equal(s.Ready.All(), []int{4, 0, 2}) || s.Domains.There(1) || s.Domains.There(3) || s.Domains.There(5) || s.Banks.There(2) {
		t.Error(s.Ready.All())
	}
	asks(t, s, s.Key(api.Bank, 0), note(5, nil), note(0, w(5, 20)))
	fails(t, s, api.Key{Kind: api.Bank, ID: 1}, note(5, nil), api.BadKey)
}

// P22.1: factories are made, filled, sealed and asked.
func TestFactories(t *testing.T) {
	s := make1(t)
	creator := api.Key{Kind: api.Creator}
	b := api.Key{Kind: api.Builder}
	asks(t, s, creator, note(0, nil), note(0, nil, b))
	asks(t, s, b, note(0, w(0), s.PageKey(0)), note(0, nil))
	asks(t, s, b, note(0, w(5), key.Num(3)), note(0, nil))
	asks(t, s, b, note(0, w(4), api.Key{Kind: api.Page, ID: 5}), note(0, nil))
	for _, part := range []uint32{6, 1 << 31, math.MaxUint32} {
		fails(t, s, b, note(0, w(part), key.Num(3)), api.BadArg)
	}
	if l := s.Makers.Parts(0); !slices.Equal(l, []api.Key{s.PageKey(0), {}, {}, {}, {}, key.Num(3)}) {
		t.Error(l)
	}
	asks(t, s, b, note(2, nil), note(0, w(1)))
	asks(t, s, b, note(1, nil), note(0, nil, api.Key{Kind: api.Maker}))
	for order := range uint32(4) {
		fails(t, s, b, note(order, w(0)), api.BadKey)
	}
	m := s.Key(api.Maker, 0)
	asks(t, s, m, note(0, nil), note(0, w(1, 2)))
	s.Banks.Give(0, s.PageKey(0))
	asks(t, s, m, note(0, nil), note(0, w(1, 2)))
	fails(t, s, m, note(1, nil, s.Key(api.Bank, 1), s.Key(api.Meter, 0)), api.BadArg)
	asks(t, s, creator, note(0, nil), note(0, nil, api.Key{Kind: api.Builder, ID: 1}))
	asks(t, s, creator, note(0, nil), note(0, nil, api.Key{Kind: api.Builder, ID: 2}))
	fails(t, s, creator, note(0, nil), api.NoRoom)
}

// P22.1: keys told apart.
func TestJudge(t *testing.T) {
	s := make1(t)
	j := api.Key{Kind: api.Judge}
	for _, x := range []struct {
		k                      api.Key
		kind, sensory, written uint32
	}{
		{api.Key{}, api.Void, 1, 0}, {key.Num(4), api.Number, 1, 0}, {s.PageKey(0), api.Page, 0, 1}, {lacking(s.PageKey(0), 1), api.Page, 0, 0}, {lacking(s.NodeKey(0, 1), 5), api.Node, 1, 0}, {lacking(s.NodeKey(0, 1), 2), api.Node, 0, 1},
		{s.Domains.Door(0, 4), api.Start, 0, 0}, {api.Key{Kind: api.Page, ID: 4}, api.Void, 1, 0}, {api.Key{Kind: api.Clock}, api.Clock, 1, 0},
	} {
		asks(t, s, j, note(0, nil, x.k), note(0, w(x.kind, x.sensory, x.written)))
		asks(t, s, j, note(2, nil, x.k), note(0, nil, right.Weaken(s.Seen(x.k))))
		asks(t, s, j, note(1, nil, x.k, x.k), note(0, w(1)))
	}
	asks(t, s, j, note(1, nil, key.Num(1), key.Num(2)), note(0, w(0)))
	asks(t, s, j, note(1, nil, s.PageKey(0), lacking(s.PageKey(0), 1)), note(0, w(0)))
	asks(t, s, j, note(1, nil, api.Key{Kind: api.Page, ID: 4}, api.Key{Kind: api.Start, Ver: 9}), note(0, w(1)))
}

// P22.1: words from without, and to it.
func TestConsole(t *testing.T) {
	s := make1(t)
	c := api.Key{Kind: api.Console}
	fails(t, s, c, note(0, nil), api.BadArg)
	s.In = []uint32{5, 6}
	asks(t, s, c, note(0, nil), note(0, w(5)))
	asks(t, s, c, note(0, nil), note(0, w(6)))
	fails(t, s, c, note(0, nil), api.BadArg)
	asks(t, s, c, note(1, w(math.MaxUint32)), note(0, nil))
	asks(t, s, c, note(1, w(0)), note(0, nil))
	if !slices.Equal(s.Out, []uint32{math.MaxUint32, 0}) || len(s.In) != 0 {
		t.Error(s.Out, s.In)
	}
}

// a factory of page 0's words, and parts of each sort.
func factory(t *testing.T) *sys.System {
	t.Helper()
	s := make1(t)
	s.Makers.Make()
	for part, k := range []api.Key{lacking(s.PageKey(0), 7), key.Num(1), {}, {Kind: api.Page, ID: 5}, {Kind: api.Console}, key.Num(5)} {
		s.Makers.Install(0, part, k)
	}
	return s
}

// P22.2: what a factory makes.
func TestBuild(t *testing.T) {
	for _, sealed := range []bool{false, true} {
		s := factory(t)
		if sealed {
			s.Makers.Seal(0)
		}
		room, ticks := s.Key(api.Bank, 1), s.Key(api.Meter, 0)
		k, number := object.Build(s, 0, room, ticks)
		if number != api.OK || k != (api.Key{Kind: api.Start, ID: 1}) {
			t.Fatal(k, number)
		}
		want := dom.Domain{Frame: api.Frame{State: api.Available}, Mem: s.NodeKey(1, 1), Meter: ticks}
		copy(want.Keys[:], []api.Key{room, ticks, key.Num(1), {}, {}, {Kind: api.Console}, key.Num(5)})
		if got := get(s, 1); got != want {
			t.Error(got)
		}
		slots := make([]api.Key, 16)
		slots[0], slots[1] = s.PageKey(1), s.PageKey(2)
		if !slices.Equal(s.Nodes.All(1), slots) || !slices.Equal(s.Pages.Words(1), s.Pages.Words(0)) || !slices.Equal(s.Pages.Words(2), make([]uint32, 32)) {
			t.Error(s.Nodes.All(1), s.Pages.Words(1))
		}
		if s.Banks.Used(1) != 4 || s.Banks.Used(0) != 7 || s.Ready.Len() != 0 {
			t.Error(s.Banks.Used(1), s.Ready.All())
		}
	}
}

// P22.1: a Maker makes by Build.
func TestMakerBuilds(t *testing.T) {
	s := factory(t)
	s.Makers.Seal(0)
	m, room, ticks := s.Key(api.Maker, 0), s.Key(api.Bank, 1), s.Key(api.Meter, 0)
	asks(t, s, m, note(1, nil, room, ticks), note(0, nil, api.Key{Kind: api.Start, ID: 1}))
	fails(t, s, m, note(1, nil, ticks, room), api.BadArg)
	fails(t, s, m, note(1, nil, room), api.BadArg)
	asks(t, s, m, note(1, nil, room, ticks), note(0, nil, api.Key{Kind: api.Start, ID: 2}))
	fails(t, s, m, note(1, nil, room, ticks), api.NoRoom)
}

// P22.2: what is amiss, in order, and that nothing is changed then.
func TestBuildErrors(t *testing.T) {
	for i, x := range []struct {
		change func(s *sys.System, room, ticks *api.Key) int
		want   int
	}{
		{func(s *sys.System, room, ticks *api.Key) int { return 1 }, api.BadArg},
		{func(s *sys.System, room, ticks *api.Key) int { return -1 }, api.BadArg},
		{func(s *sys.System, room, ticks *api.Key) int { return 99 }, api.BadArg},
		{func(s *sys.System, room, ticks *api.Key) int { *room = api.Key{}; return 0 }, api.BadArg},
		{func(s *sys.System, room, ticks *api.Key) int { room.Ver = 1; return 0 }, api.BadArg},
		{func(s *sys.System, room, ticks *api.Key) int { *ticks = *room; return 0 }, api.BadArg},
		{func(s *sys.System, room, ticks *api.Key) int { ticks.ID = 1; return 0 }, api.BadArg},
		{func(s *sys.System, room, ticks *api.Key) int { s.Makers.Install(0, 0, key.Num(1)); return 0 }, api.BadArg},
		{func(s *sys.System, room, ticks *api.Key) int { s.Banks.Give(0, s.PageKey(0)); return 0 }, api.BadArg},
		{func(s *sys.System, room, ticks *api.Key) int { fill(s, 5, 0, 0); return 0 }, api.NoRoom},
		{func(s *sys.System, room, ticks *api.Key) int { fill(s, 0, 4, 0); return 0 }, api.NoRoom},
		{func(s *sys.System, room, ticks *api.Key) int { fill(s, 0, 0, 5); return 0 }, api.NoRoom},
		{func(s *sys.System, room, ticks *api.Key) int { fill(s, 5, 4, 5); small(s, room, 0); return 0 }, api.NoRoom},
		{func(s *sys.System, room, ticks *api.Key) int { small(s, room, 3); return 0 }, api.AtLimit},
		{func(s *sys.System, room, ticks *api.Key) int {
			small(s, room, 4)
			s.Banks.Domain(room.ID)
			return 0
		}, api.AtLimit},
		{func(s *sys.System, room, ticks *api.Key) int {
			small(s, room, 3)
			id, _, _ := s.Banks.Sub(room.ID, 9)
			*room = s.Key(api.Bank, id)
			return 0
		}, api.AtLimit},
		{func(s *sys.System, room, ticks *api.Key) int { fill(s, 4, 3, 4); small(s, room, 4); return 0 }, api.OK},
	} {
		s := factory(t)
		room, ticks := s.Key(api.Bank, 1), s.Key(api.Meter, 0)
		id := x.change(s, &room, &ticks)
		used, nodes, pages, domains := s.Banks.Used(0), s.Nodes.Left(), s.Pages.Left(), s.Domains.Left()
		k, number := object.Build(s, id, room, ticks)
		if number != x.want || (k != api.Key{}) != (x.want == api.OK) {
			t.Error(i, k, number)
		}
		if x.want != api.OK && (s.Banks.Used(0) != used || s.Nodes.Left() != nodes || s.Pages.Left() != pages || s.Domains.Left() != domains) {
			t.Error(i, "something was taken")
		}
	}
}

// takes so many nodes, pages, domains of no bank.
func fill(s *sys.System, nodes, pages, domains int) {
	for range nodes {
		s.Nodes.Make()
	}
	for range pages {
		s.Pages.Make()
	}
	for range domains {
		s.Domains.Make()
	}
}

// makes room a bank of that limit.
func small(s *sys.System, room *api.Key, limit int) {
	id, _, _ := s.Banks.Sub(0, limit)
	*room = s.Key(api.Bank, id)
}
