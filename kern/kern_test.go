package kern_test

import (
	"math"
	"math/rand"
	"slices"
	"testing"

	"turnkey/api"
	"turnkey/asm"
	"turnkey/dom"
	"turnkey/kern"
	"turnkey/key"
	"turnkey/sys"
)

// a system of a bank, a meter of 1000 ticks, and a domain for each program, that is Running and ready; key register 0 of each is a door to the next one.
func make1(t *testing.T, programs ...[]string) *sys.System {
	t.Helper()
	s, err := sys.New(sys.Sizes{Nodes: 16, Pages: 32, Domains: 16, Meters: 8, Banks: 4, Makers: 2})
	if err != nil {
		t.Fatal(err)
	}
	s.Banks.Root(500)
	s.Meters.Make(-1, 1000)
	for id, lines := range programs {
		words, err := asm.Text(lines...)
		if err != nil {
			t.Fatal(err)
		}
		p, _, _ := s.Banks.Page(0, words...)
		s.Banks.Domain(0)
		change(s, id, func(d *dom.Domain) {
			d.Mem, d.Meter, d.State = s.PageKey(p), s.Key(api.Meter, 0), api.Running
		})
		s.Ready.Put(id)
	}
	for id := range programs {
		change(s, id, func(d *dom.Domain) { d.Keys[0] = s.Domains.Door((id+1)%len(programs), 4) })
	}
	return s
}

func get(s *sys.System, id int) dom.Domain {
	d, _ := s.Domains.Get(id)
	return d
}

func change(s *sys.System, id int, by func(d *dom.Domain)) {
	d := get(s, id)
	by(&d)
	s.Domains.Put(id, d)
}

func steps(t *testing.T, s *sys.System, choice int, want kern.Trace) {
	t.Helper()
	before := s.Steps
	if got := kern.Step(s, choice); got != want {
		t.Errorf("%+v, not %+v", got, want)
	}
	if s.Steps != before+1 {
		t.Error("steps", s.Steps)
	}
}

func ready(t *testing.T, s *sys.System, want ...int) {
	t.Helper()
	if got := s.Ready.All(); !slices.Equal(got, want) {
		t.Errorf("ready are %v, not %v", got, want)
	}
}

// P24.1: nobody is ready, or who is can't go on.
func TestIdle(t *testing.T) {
	s := make1(t)
	for _, choice := range []int{0, 5, -5, math.MaxInt, math.MinInt} {
		steps(t, s, choice, kern.Trace{Who: -1, To: -1})
	}
	s = make1(t, []string{"halt"})
	s.Ready.Put(9)
	for _, st := range []int{api.Available, api.Waiting, api.Halted} {
		s.Ready.Put(0)
		change(s, 0, func(d *dom.Domain) { d.State = st })
		steps(t, s, 0, kern.Trace{Who: 0, To: -1})
		s.Ready.Put(9)
		steps(t, s, 0, kern.Trace{Who: 9, To: -1})
		ready(t, s)
	}
	if s.Meters.Ticks(0) != 1000 {
		t.Error("it was charged")
	}
}

// P24.1: it ran, and is ready at the end.
func TestRan(t *testing.T) {
	s := make1(t, []string{"li r1 5", "yield"}, []string{"jmp 0"}, []string{"jmp 0"})
	steps(t, s, 3, kern.Trace{Who: 0, Kind: kern.Ran, To: -1})
	ready(t, s, 1, 2, 0)
	steps(t, s, -1, kern.Trace{Who: 0, Kind: kern.Yielded, To: -1})
	ready(t, s, 1, 2, 0)
	steps(t, s, 1, kern.Trace{Who: 2, Kind: kern.Ran, To: -1})
	ready(t, s, 1, 0, 2)
	if d := get(s, 0); d.Regs[1] != 5 || d.PC != 2 || d.State != api.Running || s.Meters.Ticks(0) != 997 {
		t.Error(d, s.Meters.Ticks(0))
	}
}

// P24.1: it halts, and those that wait for it are ready.
func TestHalted(t *testing.T) {
	s := make1(t, []string{"halt"}, []string{"jmp 0"}, []string{"jmp 0"})
	for _, who := range []int{2, 1} {
		s.Ready.Drop(who)
		s.Domains.Stall(0, who)
	}
	steps(t, s, 0, kern.Trace{Who: 0, Kind: kern.Halted, To: -1})
	ready(t, s, 2, 1)
	if d := get(s, 0); d.State != api.Halted || d.PC != 1 {
		t.Error(d)
	}
}

// P24.1: a fault, without a keeper and with one.
func TestFaulted(t *testing.T) {
	for fault, line := range map[int]string{api.FaultWord: "word 0", api.FaultRange: "load r1 r2 32", api.FaultWrite: "save r1 r2 0"} {
		s := make1(t, []string{line}, []string{"halt"})
		change(s, 0, func(d *dom.Domain) { d.Mem.Rights = api.ReadOnly })
		steps(t, s, 0, kern.Trace{Who: 0, Kind: kern.Faulted, To: -1, Fault: fault})
		ready(t, s, 1)
		if d := get(s, 0); d.State != api.Halted || d.Fault != fault || d.PC != 0 || s.Meters.Ticks(0) != 999 {
			t.Error(d)
		}
	}
	s := make1(t, []string{"load r1 r2 40"}, []string{"halt"})
	change(s, 0, func(d *dom.Domain) { d.Keeper = s.Domains.Door(1, 6) })
	change(s, 1, func(d *dom.Domain) { d.State = api.Available })
	s.Ready.Drop(1)
	steps(t, s, 0, kern.Trace{Who: 0, Kind: kern.Faulted, To: 1, Fault: api.FaultRange})
	ready(t, s, 1)
	if d := get(s, 1); d.Regs != [8]uint32{1003, 0, 40, 0, 6} || d.State != api.Running || get(s, 0).State != api.Waiting {
		t.Error(d)
	}
}

// P24.1: without ticks, or a meter that is one, nothing is run.
func TestNoTicks(t *testing.T) {
	for i, meter := range []func(s *sys.System) api.Key{
		func(s *sys.System) api.Key { return api.Key{} },
		func(s *sys.System) api.Key { return s.Key(api.Bank, 0) },
		func(s *sys.System) api.Key { return api.Key{Kind: api.Meter, ID: 3} },
		func(s *sys.System) api.Key { return api.Key{Kind: api.Meter, Ver: 1} },
		func(s *sys.System) api.Key { s.Meters.Charge(0, 1000); return s.Key(api.Meter, 0) },
		func(s *sys.System) api.Key { s.Meters.Make(0, 0); return s.Key(api.Meter, 1) },
		func(s *sys.System) api.Key { s.Meters.Charge(0, 1000); s.Meters.Make(0, 9); return s.Key(api.Meter, 1) },
	} {
		s := make1(t, []string{"li r1 5"})
		change(s, 0, func(d *dom.Domain) { d.Meter = meter(s) })
		steps(t, s, 0, kern.Trace{Who: 0, Kind: kern.Faulted, To: -1, Fault: api.FaultMeter})
		ready(t, s)
		if d := get(s, 0); d.State != api.Halted || d.Fault != api.FaultMeter || d.PC != 0 || d.Regs[1] != 0 {
			t.Error(i, d)
		}
	}
	s := make1(t, []string{"li r1 5"}, nil)
	change(s, 0, func(d *dom.Domain) { d.Meter, d.Keeper = api.Key{}, s.Domains.Door(1, 0) })
	change(s, 1, func(d *dom.Domain) { d.State = api.Available })
	steps(t, s, 0, kern.Trace{Who: 0, Kind: kern.Faulted, To: 1, Fault: api.FaultMeter})
	if d := get(s, 1); d.Regs != [8]uint32{1006} {
		t.Error(d.Regs)
	}
}

// P24.1: a step charges the meter and all ahead of it.
func TestCharges(t *testing.T) {
	s := make1(t, []string{"jmp 0"})
	s.Meters.Make(0, 2)
	change(s, 0, func(d *dom.Domain) { d.Meter = s.Key(api.Meter, 1) })
	kern.Steps(s, 0, 0, 0)
	if s.Meters.Ticks(0) != 998 || s.Meters.Ticks(1) != 0 || get(s, 0).Fault != api.FaultMeter {
		t.Error(s.Meters.Ticks(0), s.Meters.Ticks(1))
	}
}

// P24.1: an invocation that the kernel answers.
func TestInvokedAnswered(t *testing.T) {
	for how, line := range []string{"inv call k1 k2", "inv return k1 k2", "inv fork k1 k2"} {
		s := make1(t, []string{line}, []string{"jmp 0"})
		change(s, 0, func(d *dom.Domain) { d.Regs[0], d.Keys[1] = 8, s.Domains.Key(0) })
		steps(t, s, 0, kern.Trace{Who: 0, Kind: kern.Invoked, How: how, Order: 8, Key: api.Domain, To: -1})
		s = make1(t, []string{line})
		change(s, 0, func(d *dom.Domain) { d.Regs[0], d.Keys[1] = 77, key.Num(3) })
		steps(t, s, 0, kern.Trace{Who: 0, Kind: kern.Invoked, How: how, Order: 77, Key: api.Number, Answer: api.BadOrder, To: -1})
		if got := s.Ready.Has(0); got != (how != api.Return) {
			t.Error(how, got)
		}
		s = make1(t, []string{line})
		change(s, 0, func(d *dom.Domain) { d.Keys[1] = api.Key{Kind: api.Page, ID: 9} })
		steps(t, s, 0, kern.Trace{Who: 0, Kind: kern.Invoked, How: how, Key: api.Void, Answer: api.BadKey, To: -1})
	}
}

// P24.1: the kind is that of the key ahead of what is done.
func TestInvokedKindAhead(t *testing.T) {
	s := make1(t, []string{"li r0 4", "inv call k1 k2"})
	change(s, 0, func(d *dom.Domain) { d.Keys[1] = s.Key(api.Bank, 0) })
	kern.Step(s, 0)
	steps(t, s, 0, kern.Trace{Who: 0, Kind: kern.Invoked, Order: 4, Key: api.Bank, To: -1})
	steps(t, s, 0, kern.Trace{Who: -1, To: -1})
}

// P24.1: passed to another domain, and answered by it.
func TestInvokedPassed(t *testing.T) {
	s := make1(t, []string{"li r0 9", "inv call k0 k1", "halt"}, []string{"inv return k1 k1", "li r0 7", "inv return k15 k1"})
	steps(t, s, 1, kern.Trace{Who: 1, Kind: kern.Invoked, How: api.Return, Key: api.Void, Answer: api.BadKey, To: -1})
	steps(t, s, 0, kern.Trace{Who: 0, Kind: kern.Ran, To: -1})
	steps(t, s, 0, kern.Trace{Who: 0, Kind: kern.Invoked, Order: 9, Key: api.Start, To: 1})
	steps(t, s, 0, kern.Trace{Who: 1, Kind: kern.Ran, To: -1})
	steps(t, s, 0, kern.Trace{Who: 1, Kind: kern.Invoked, How: api.Return, Order: 7, Key: api.Resume, To: 0})
	ready(t, s, 0)
	if d := get(s, 0); d.Regs[0] != 7 || get(s, 1).State != api.Available {
		t.Error(d)
	}
	steps(t, s, 0, kern.Trace{Who: 0, Kind: kern.Halted, To: -1})
}

// P24.1: who isn't Available is waited for, and asked again.
func TestWaits(t *testing.T) {
	s := make1(t, []string{"li r0 9", "inv call k0 k1"}, []string{"yield", "inv return k1 k1"})
	kern.Step(s, 0)
	steps(t, s, 1, kern.Trace{Who: 0, Kind: kern.Waits, To: 1})
	ready(t, s, 1)
	kern.Step(s, 0)
	steps(t, s, 0, kern.Trace{Who: 1, Kind: kern.Invoked, How: api.Return, Key: api.Void, Answer: api.BadKey, To: -1})
	ready(t, s, 0)
	steps(t, s, 0, kern.Trace{Who: 0, Kind: kern.Invoked, Order: 9, Key: api.Start, To: 1})
}

// P24.2: step by step.
func TestSteps(t *testing.T) {
	s := make1(t, []string{"yield", "halt"}, []string{"jmp 0"})
	got := kern.Steps(s, 0, 1, 0, -7)
	want := []kern.Trace{{Who: 0, Kind: kern.Yielded, To: -1}, {Who: 0, Kind: kern.Halted, To: -1}, {Who: 1, Kind: kern.Ran, To: -1}, {Who: 1, Kind: kern.Ran, To: -1}}
	if !slices.Equal(got, want) || s.Steps != 4 {
		t.Error(got)
	}
	if len(kern.Steps(s)) != 0 || s.Steps != 4 {
		t.Error("without choices")
	}
}

// P24.2: one domain goes on, as long as it is ready, and at most so often.
func TestRun(t *testing.T) {
	s := make1(t, []string{"jmp 0"}, []string{"yield", "li r1 1", "halt"})
	if got := kern.Run(s, 1, 2); len(got) != 2 || got[1] != (kern.Trace{Who: 1, Kind: kern.Ran, To: -1}) {
		t.Error(got)
	}
	if got := kern.Run(s, 1, 99); len(got) != 1 || got[0].Kind != kern.Halted {
		t.Error(got)
	}
	for _, x := range [][2]int{{1, 9}, {7, 9}, {-1, 9}, {0, 0}, {0, -1}, {0, math.MinInt}} {
		if got := kern.Run(s, x[0], x[1]); len(got) != 0 {
			t.Error(x, got)
		}
	}
	if s.Steps != 3 {
		t.Error(s.Steps)
	}
	s.Meters.Add(100000, 0)
	if got := kern.Run(s, 0, math.MaxInt); len(got) != 4096 || s.Steps != 3+4096 {
		t.Error(len(got))
	}
}

// P0.8: whatever words programs are of, no step panics, and the same choices tell the same.
func TestAnyPrograms(t *testing.T) {
	for seed := range int64(60) {
		var told [][]kern.Trace
		for range 2 {
			r := rand.New(rand.NewSource(seed))
			s := make1(t, nil, nil, nil, nil)
			for id := range 4 {
				for at := range 32 {
					w := uint32(1+r.Intn(13))<<24 | uint32(r.Intn(8))<<20 | uint32(r.Intn(8))<<16 | uint32(r.Intn(34))
					if r.Intn(3) == 0 {
						w = 11<<24 | uint32(r.Intn(3))<<20 | uint32(r.Intn(16))<<16 | uint32(r.Intn(16))<<12
					}
					s.Pages.Write(id, at, w)
				}
				change(s, id, func(d *dom.Domain) {
					d.Keys = [16]api.Key{s.Domains.Door(r.Intn(4), 1), s.Key(api.Bank, 0), s.Key(api.Meter, 0), {Kind: api.Creator}, {Kind: api.Console}, {Kind: api.Judge}, s.Domains.Key(r.Intn(4)), s.PageKey(r.Intn(4))}
					d.Keeper = s.Domains.Door(r.Intn(4), 2)
				})
			}
			var traces []kern.Trace
			for range 800 {
				traces = append(traces, kern.Step(s, r.Int()-r.Int()))
			}
			told = append(told, traces)
		}
		if !slices.Equal(told[0], told[1]) {
			t.Fatal(seed)
		}
	}
}
