package gate_test

import (
	"math"
	"slices"
	"testing"

	"turnkey/api"
	"turnkey/dom"
	"turnkey/gate"
	"turnkey/key"
	"turnkey/sys"
)

// a system of a bank and five domains: 0 is Running, and ready as 1 is; the others are Available.
func make1(t *testing.T) *sys.System {
	t.Helper()
	s, err := sys.New(sys.Sizes{Nodes: 4, Pages: 4, Domains: 8, Meters: 4, Banks: 4, Makers: 2})
	if err != nil {
		t.Fatal(err)
	}
	s.Banks.Root(50)
	for id := range 5 {
		s.Banks.Domain(0)
		change(s, id, func(d *dom.Domain) {
			d.PC = 10
			for i := range d.Regs {
				d.Regs[i] = uint32(100*id + i)
			}
			for i := range d.Keys {
				d.Keys[i] = key.Num(uint32(100*id + i))
			}
		})
	}
	setState(s, 0, api.Running)
	setState(s, 1, api.Running)
	s.Ready.Put(0, 1)
	return s
}

func get(s *sys.System, id int) dom.Domain {
	d, _ := s.Domains.Get(id)
	return d
}

func change(s *sys.System, id int, by func(d *dom.Domain)) {
	d := get(s, id)
	by(&d)
	s.Domains.Put(id, d)
}

func setState(s *sys.System, id, state int) {
	change(s, id, func(d *dom.Domain) { d.State = state })
}

var sent = api.Note{Order: 3, Words: [3]uint32{4, 5, 6}, Keys: [3]api.Key{key.Num(7), {Kind: api.Page, ID: 3}, {Kind: api.Judge}}}

// what a domain is once it took that.
func taken(d dom.Domain, n api.Note, badge uint32, back api.Key) dom.Domain {
	d.Regs[0], d.Regs[1], d.Regs[2], d.Regs[3], d.Regs[4] = n.Order, n.Words[0], n.Words[1], n.Words[2], badge
	for i, k := range []api.Key{n.Keys[0], n.Keys[1], n.Keys[2], back} {
		d.Keys[12+i] = k
	}
	return d
}

func seen() api.Note {
	n := sent
	n.Keys[1] = api.Key{}
	return n
}

func invokes(t *testing.T, s *sys.System, id, how int, k api.Key, n api.Note, want gate.Result) {
	t.Helper()
	if got, err := gate.Invoke(s, id, how, k, n); got != want || err != nil {
		t.Fatalf("%v, %v, not %v", got, err, want)
	}
}

func is(t *testing.T, s *sys.System, id int, want dom.Domain) {
	t.Helper()
	if got := get(s, id); got != want {
		t.Errorf("domain %d is %v, not %v", id, got, want)
	}
}

func ready(t *testing.T, s *sys.System, want ...int) {
	t.Helper()
	if got := s.Ready.All(); !slices.Equal(got, want) {
		t.Errorf("ready are %v, not %v", got, want)
	}
}

func state(d dom.Domain, state int) dom.Domain {
	d.State = state
	return d
}

// P23.1: the errors in their order, with nothing changed.
func TestInvokeErrors(t *testing.T) {
	s := make1(t)
	for _, x := range []struct {
		id, how int
		want    error
	}{
		{5, 9, api.ErrNone}, {-1, 0, api.ErrNone}, {99, 0, api.ErrNone}, {math.MaxInt, 0, api.ErrNone},
		{2, 3, api.ErrRange}, {0, -1, api.ErrRange}, {0, math.MaxInt, api.ErrRange},
		{2, 0, api.ErrState},
	} {
		if got, err := gate.Invoke(s, x.id, x.how, key.Num(1), sent); got != (gate.Result{}) || err != x.want {
			t.Error(x, got, err)
		}
	}
	for _, st := range []int{api.Available, api.Waiting, api.Halted} {
		setState(s, 0, st)
		if _, err := gate.Invoke(s, 0, api.Call, key.Num(1), sent); err != api.ErrState {
			t.Error(st, err)
		}
	}
	ready(t, s, 0, 1)
}

// P23.1: the kernel answers, and id goes on by how it asked.
func TestAnswered(t *testing.T) {
	answer := api.Note{Words: [3]uint32{77}}
	for how := range 3 {
		s := make1(t)
		s.Domains.Stall(0, 1)
		s.Ready.Drop(1)
		s.Ready.Put(3)
		was := get(s, 0)
		invokes(t, s, 0, how, key.Num(77), api.Note{}, gate.Result{Kind: gate.Answered, To: -1, Answer: answer})
		switch how {
		case api.Call:
			is(t, s, 0, taken(was, answer, 0, api.Key{}))
			ready(t, s, 3, 0)
		case api.Return:
			is(t, s, 0, state(was, api.Available))
			ready(t, s, 3, 1)
		case api.Fork:
			is(t, s, 0, was)
			ready(t, s, 3, 0)
		}
	}
}

// P23.1: what isn't live is answered as a Void, and keys go as they are seen.
func TestInvokeSees(t *testing.T) {
	s := make1(t)
	bad := gate.Result{Kind: gate.Answered, To: -1, Answer: api.Note{Order: api.BadKey}}
	for _, k := range []api.Key{{}, {Kind: api.Start, ID: 6}, {Kind: api.Start, ID: 2, Ver: 1}, {Kind: api.Resume, ID: 2}, {Kind: 15}, {Kind: api.Page, ID: 2}} {
		invokes(t, s, 0, api.Call, k, sent, bad)
	}
	judge := api.Note{Order: 0, Keys: [3]api.Key{{Kind: api.Page, ID: 2}}}
	invokes(t, s, 0, api.Call, api.Key{Kind: api.Judge}, judge, gate.Result{Kind: gate.Answered, To: -1, Answer: api.Note{Words: [3]uint32{0, 1, 0}}})
}

// P23.1: id halts or ends itself by what it asks: then nothing more is done.
func TestAnsweredAndGone(t *testing.T) {
	for how := range 3 {
		s := make1(t)
		was := get(s, 0)
		invokes(t, s, 0, how, s.Domains.Key(0), api.Note{Order: 9}, gate.Result{To: -1})
		is(t, s, 0, state(was, api.Halted))
		ready(t, s, 1)
		s = make1(t)
		invokes(t, s, 0, how, s.Key(api.Bank, 0), api.Note{Order: 4}, gate.Result{To: -1, Answer: api.Note{Words: [3]uint32{5}}})
		ready(t, s)
		if s.Domains.Used() != 0 {
			t.Error(s.Domains.Used())
		}
	}
}

// P23.1: id changes itself by what it asks, and takes the answer upon that.
func TestAnsweredUponChange(t *testing.T) {
	s := make1(t)
	want := taken(get(s, 0), api.Note{}, 0, api.Key{})
	want.PC, want.Keys[5] = 30, key.Num(9)
	invokes(t, s, 0, api.Call, s.Domains.Key(0), api.Note{Order: 6, Words: [3]uint32{30}}, gate.Result{To: -1})
	invokes(t, s, 0, api.Call, s.Domains.Key(0), api.Note{Order: 1, Words: [3]uint32{5}, Keys: key.Row(key.Num(9))}, gate.Result{To: -1})
	is(t, s, 0, want)
	invokes(t, s, 0, api.Call, s.Domains.Key(0), api.Note{Order: 7}, gate.Result{To: -1, Answer: api.Note{Order: api.BadArg}})
	ready(t, s, 1, 0)
}

// P23.1: whom id starts is ready ahead of id.
func TestAnsweredAtTheEnd(t *testing.T) {
	s := make1(t)
	invokes(t, s, 0, api.Call, s.Domains.Key(3), api.Note{Order: 7}, gate.Result{To: -1})
	ready(t, s, 1, 3, 0)
}

// P23.1: passed to a domain that is Available.
func TestPassedToStart(t *testing.T) {
	for how := range 3 {
		s := make1(t)
		s.Domains.Stall(0, 1)
		s.Ready.Drop(1)
		me, you := get(s, 0), get(s, 2)
		invokes(t, s, 0, how, s.Domains.Door(2, 9), sent, gate.Result{Kind: gate.Passed, To: 2})
		switch how {
		case api.Call:
			me.State, me.Wait = api.Waiting, 1
			is(t, s, 0, me)
			is(t, s, 2, state(taken(you, seen(), 9, api.Key{Kind: api.Resume, Data: 1}), api.Running))
			ready(t, s, 2)
		case api.Return:
			is(t, s, 0, state(me, api.Available))
			is(t, s, 2, state(taken(you, seen(), 9, api.Key{}), api.Running))
			ready(t, s, 2, 1)
		case api.Fork:
			is(t, s, 0, me)
			is(t, s, 2, state(taken(you, seen(), 9, api.Key{}), api.Running))
			ready(t, s, 2, 0)
		}
	}
}

// P23.1: the number of a wait goes on, and round.
func TestWaitNumbers(t *testing.T) {
	for _, x := range [][2]int{{0, 1}, {7, 8}, {api.MaxData - 1, api.MaxData}, {api.MaxData, 1}} {
		s := make1(t)
		change(s, 0, func(d *dom.Domain) { d.Wait = x[0] })
		gate.Invoke(s, 0, api.Call, s.Domains.Door(2, 0), sent)
		if d := get(s, 0); d.Wait != x[1] || get(s, 2).Keys[15] != (api.Key{Kind: api.Resume, Data: uint32(x[1])}) {
			t.Error(x, d.Wait)
		}
	}
}

// P23.1: the answer to a wait.
func TestPassedToResume(t *testing.T) {
	for how := range 3 {
		s := make1(t)
		change(s, 2, func(d *dom.Domain) { d.State, d.Wait = api.Waiting, 5 })
		s.Domains.Stall(0, 1)
		s.Ready.Drop(1)
		k := s.Domains.Resume(2)
		me, you := get(s, 0), get(s, 2)
		invokes(t, s, 0, how, k, sent, gate.Result{Kind: gate.Passed, To: 2})
		back := api.Key{}
		switch how {
		case api.Call:
			me.State, me.Wait = api.Waiting, 1
			is(t, s, 0, me)
			back = api.Key{Kind: api.Resume, Data: 1}
			ready(t, s, 2)
		case api.Return:
			is(t, s, 0, state(me, api.Available))
			ready(t, s, 2, 1)
		case api.Fork:
			is(t, s, 0, me)
			ready(t, s, 2, 0)
		}
		is(t, s, 2, state(taken(you, seen(), 0, back), api.Running))
		if s.Live(k) {
			t.Error("it answers twice")
		}
	}
}

// P23.1: who isn't Available is waited for.
func TestStalled(t *testing.T) {
	for how := range 3 {
		for _, st := range []int{api.Running, api.Waiting, api.Halted} {
			s := make1(t)
			setState(s, 2, st)
			s.Domains.Stall(2, 1)
			s.Domains.Stall(3, 0)
			me, you := get(s, 0), get(s, 2)
			me.PC--
			invokes(t, s, 0, how, s.Domains.Door(2, 9), sent, gate.Result{Kind: gate.Stalled, To: 2})
			is(t, s, 0, me)
			is(t, s, 2, you)
			ready(t, s, 1)
			if !slices.Equal(s.Domains.Callers(2), []int{1, 0}) || len(s.Domains.Callers(3)) != 0 {
				t.Error(s.Domains.Callers(2))
			}
		}
	}
}

// P23.1: PC is a word that goes round.
func TestStalledAtZero(t *testing.T) {
	s := make1(t)
	change(s, 0, func(d *dom.Domain) { d.PC = 0 })
	gate.Invoke(s, 0, api.Call, s.Domains.Door(1, 0), sent)
	if get(s, 0).PC != math.MaxUint32 {
		t.Error(get(s, 0).PC)
	}
}

// P23.1: who calls itself is halted.
func TestStalledByItself(t *testing.T) {
	for how := range 3 {
		s := make1(t)
		me := get(s, 0)
		me.PC--
		invokes(t, s, 0, how, s.Domains.Door(0, 9), sent, gate.Result{Kind: gate.Stalled, To: 0})
		is(t, s, 0, state(me, api.Halted))
		ready(t, s, 1)
		if len(s.Domains.Callers(0)) != 0 {
			t.Error(s.Domains.Callers(0))
		}
	}
}

// P23.2: those that wait are ready, in order, if they are there and Running.
func TestFree(t *testing.T) {
	s := make1(t)
	for _, id := range []int{2, 3} {
		setState(s, id, api.Running)
	}
	for _, who := range []int{3, 4, 2} {
		s.Domains.Stall(0, who)
	}
	s.Domains.Stall(1, 0)
	s.Ready.Drop(0)
	gate.Free(s, 9, -1, 0, 1)
	ready(t, s, 1, 3, 2, 0)
	if len(s.Domains.Callers(0)) != 0 {
		t.Error(s.Domains.Callers(0))
	}
	gate.Free(s)
}

// P23.2: a keeper that is Available is told.
func TestUpcall(t *testing.T) {
	for fault := 1; fault <= 6; fault++ {
		s := make1(t)
		change(s, 0, func(d *dom.Domain) { d.Keeper, d.Wait = s.Domains.Door(2, 8), 3 })
		me, you := get(s, 0), get(s, 2)
		if !gate.Upcall(s, 0, fault, 99) {
			t.Fatal(fault)
		}
		me.State, me.Wait, me.Fault = api.Waiting, 4, fault
		is(t, s, 0, me)
		n := api.Note{Order: 1000 + uint32(fault), Words: [3]uint32{10, 99, 0}, Keys: key.Row(s.Domains.Key(0))}
		is(t, s, 2, state(taken(you, n, 8, api.Key{Kind: api.Resume, Data: 4}), api.Running))
		ready(t, s, 1, 2)
	}
}

// P23.2: id is told too.
func TestUpcallTellsWho(t *testing.T) {
	s := make1(t)
	change(s, 1, func(d *dom.Domain) { d.Keeper = s.Domains.Door(2, 0) })
	gate.Upcall(s, 1, 2, 0)
	if d := get(s, 2); d.Regs[3] != 1 || d.Keys[12] != s.Domains.Key(1) {
		t.Error(d)
	}
}

// P23.2: without such a keeper it is Halted.
func TestUpcallHalts(t *testing.T) {
	for i, keeper := range []func(s *sys.System) api.Key{
		func(s *sys.System) api.Key { return api.Key{} },
		func(s *sys.System) api.Key { return key.Num(1) },
		func(s *sys.System) api.Key { return s.Domains.Key(2) },
		func(s *sys.System) api.Key { return s.Domains.Door(0, 0) },
		func(s *sys.System) api.Key { return s.Domains.Door(1, 0) },
		func(s *sys.System) api.Key { return api.Key{Kind: api.Start, ID: 2, Ver: 1} },
		func(s *sys.System) api.Key { return api.Key{Kind: api.Start, ID: 7} },
		func(s *sys.System) api.Key { setState(s, 2, api.Halted); return s.Domains.Door(2, 0) },
		func(s *sys.System) api.Key { setState(s, 2, api.Waiting); return s.Domains.Resume(2) },
	} {
		s := make1(t)
		change(s, 0, func(d *dom.Domain) { d.Keeper = keeper(s) })
		me, you := get(s, 0), get(s, 2)
		if gate.Upcall(s, 0, 5, 99) {
			t.Error(i)
		}
		me.Fault = 5
		is(t, s, 0, state(me, api.Halted))
		is(t, s, 2, you)
		ready(t, s, 1)
	}
}

// P23.2: who isn't Running, or what is no fault: nothing.
func TestUpcallNothing(t *testing.T) {
	s := make1(t)
	change(s, 0, func(d *dom.Domain) { d.Keeper = s.Domains.Door(2, 8) })
	was := []dom.Domain{get(s, 0), get(s, 2), get(s, 3)}
	for _, x := range [][2]int{{0, 0}, {0, 7}, {0, -1}, {3, 1}, {6, 1}, {-1, 1}, {99, 1}} {
		if gate.Upcall(s, x[0], x[1], 0) {
			t.Error(x)
		}
	}
	for i, id := range []int{0, 2, 3} {
		is(t, s, id, was[i])
	}
	ready(t, s, 0, 1)
}
