package cpu_test

import (
	"math"
	"math/rand"
	"testing"

	"turnkey/api"
	"turnkey/asm"
	"turnkey/cpu"
	"turnkey/dom"
	"turnkey/key"
	"turnkey/mem"
)

// a memory of one page of these lines, a page of 0s behind it, and a domain that runs there.
func machine(t *testing.T, lines ...string) (*mem.Memory, *dom.Domain) {
	t.Helper()
	words, err := asm.Text(lines...)
	if err != nil {
		t.Fatal(err)
	}
	m, err := mem.New(4, 4, 4)
	if err != nil {
		t.Fatal(err)
	}
	m.Pages.Make(words...)
	m.Pages.Make()
	m.Nodes.Make(m.PageKey(0), m.PageKey(1))
	d := &dom.Domain{Mem: m.NodeKey(0, 1), Wait: 3}
	d.State, d.Fault = api.Running, 2
	return m, d
}

// P17.1: what each instruction without memory makes of a domain.
func TestRegisters(t *testing.T) {
	for _, x := range []struct {
		line string
		want func(d *dom.Domain)
	}{
		{"li r1 4095", func(d *dom.Domain) { d.Regs[1] = 4095 }},
		{"lih r1 5", func(d *dom.Domain) { d.Regs[1] = 7*4096 + 5 }},
		{"lih r7 1", func(d *dom.Domain) { d.Regs[7] = 0xfffff001 }},
		{"alu add r0 r1 r2", func(d *dom.Domain) { d.Regs[0] = 10 }},
		{"alu sub r2 r2 r1", func(d *dom.Domain) { d.Regs[2] = math.MaxUint32 - 3 }},
		{"alu div r1 r1 r0", func(d *dom.Domain) { d.Regs[1] = 0 }},
		{"alu lt r5 r2 r1", func(d *dom.Domain) { d.Regs[5] = 1 }},
		{"jmp 4095", func(d *dom.Domain) { d.PC = 4095 }},
		{"jz r0 9", func(d *dom.Domain) { d.PC = 9 }},
		{"jz r1 9", func(d *dom.Domain) {}},
		{"kmove k1 k0", func(d *dom.Domain) { d.Keys[1] = d.Keys[0] }},
		{"kmove k0 k1", func(d *dom.Domain) { d.Keys[0] = api.Key{} }},
		{"knum k3 r1", func(d *dom.Domain) { d.Keys[3] = key.Num(7) }},
		{"kget r1 k2", func(d *dom.Domain) { d.Regs[1] = 55 }},
		{"kget r1 k0", func(d *dom.Domain) { d.Regs[1] = 0 }},
		{"kget r1 k1", func(d *dom.Domain) { d.Regs[1] = 0 }},
	} {
		m, d := machine(t, x.line)
		d.Regs[1], d.Regs[2], d.Regs[7] = 7, 3, math.MaxUint32
		d.Keys[0], d.Keys[2] = api.Key{Kind: api.Start, Data: 9}, key.Num(55)
		want := *d
		want.PC = 1
		x.want(&want)
		if e := cpu.Step(m, d); e != (cpu.Event{Kind: cpu.Done}) || *d != want {
			t.Error(x.line, e, *d)
		}
	}
}

// P17.1: words come from memory and go there.
func TestLoadSave(t *testing.T) {
	m, d := machine(t, "save r1 r2 31", "load r3 r2 31", "save r1 r6 2")
	d.Regs[1], d.Regs[2], d.Regs[6] = 77, 1, math.MaxUint32
	for range 3 {
		if e := cpu.Step(m, d); e.Kind != cpu.Done {
			t.Fatal(e)
		}
	}
	if w, _ := m.Load(d.Mem, 32); w != 77 || d.Regs[3] != 77 || d.PC != 3 {
		t.Error(w, d.Regs, d.PC)
	}
	if w, _ := m.Load(d.Mem, 1); w != 77 {
		t.Error("the address doesn't go round", w)
	}
}

// P17.1: a fault tells its address, and leaves all as it was.
func TestFaults(t *testing.T) {
	for i, x := range []struct {
		line   string
		change func(m *mem.Memory, d *dom.Domain)
		fault  int
		addr   uint32
	}{
		{"halt", func(m *mem.Memory, d *dom.Domain) { d.Mem = api.Key{} }, api.FaultVoid, 0},
		{"halt", func(m *mem.Memory, d *dom.Domain) { d.PC = 64 }, api.FaultVoid, 64},
		{"halt", func(m *mem.Memory, d *dom.Domain) { d.PC = math.MaxUint32 }, api.FaultRange, math.MaxUint32},
		{"halt", func(m *mem.Memory, d *dom.Domain) { m.Set(0, 0, m.NodeKey(0, 1)) }, api.FaultDepth, 0},
		{"halt", func(m *mem.Memory, d *dom.Domain) { d.PC = 1 }, api.FaultWord, 1},
		{"word 999999999", func(m *mem.Memory, d *dom.Domain) {}, api.FaultWord, 0},
		{"load r1 r2 5", func(m *mem.Memory, d *dom.Domain) { d.Regs[2] = 512 }, api.FaultRange, 517},
		{"load r1 r2 5", func(m *mem.Memory, d *dom.Domain) { d.Regs[2] = 64 }, api.FaultVoid, 69},
		{"load r2 r2 4", func(m *mem.Memory, d *dom.Domain) { d.Regs[2] = math.MaxUint32 - 4 }, api.FaultRange, math.MaxUint32},
		{"save r1 r2 5", func(m *mem.Memory, d *dom.Domain) { d.Regs[2] = 512 }, api.FaultRange, 517},
		{"save r1 r2 5", func(m *mem.Memory, d *dom.Domain) { d.Mem.Rights = api.ReadOnly }, api.FaultWrite, 5},
		{"save r1 r2 5", func(m *mem.Memory, d *dom.Domain) { d.Mem.Rights = api.Weak }, api.FaultWrite, 5},
	} {
		m, d := machine(t, x.line)
		d.Regs[1] = 9
		x.change(m, d)
		was, page := *d, m.Pages.Words(0)
		if e := cpu.Step(m, d); e != (cpu.Event{Kind: cpu.Faults, Fault: x.fault, Addr: x.addr}) || *d != was {
			t.Error(i, x.line, e)
		}
		if now := m.Pages.Words(0); now[5] != page[5] {
			t.Error(i, "memory changed")
		}
	}
}

// P17.1: PC is one more, or where a jump leads; State, Fault and Wait stay.
func TestPCIsOneMore(t *testing.T) {
	m, d := machine(t, "jmp 31")
	m.Pages.Write(0, 31, 12<<24)
	m.Pages.Write(1, 0, 13<<24)
	for _, want := range []struct {
		kind int
		pc   uint32
	}{{cpu.Done, 31}, {cpu.Yields, 32}, {cpu.Halts, 33}} {
		if e := cpu.Step(m, d); e != (cpu.Event{Kind: want.kind}) || d.PC != want.pc {
			t.Error(e, d.PC, want)
		}
	}
	if d.State != api.Running || d.Fault != 2 || d.Wait != 3 {
		t.Error(d.State, d.Fault, d.Wait)
	}
}

// P17.1: what an invocation sends.
func TestInvokes(t *testing.T) {
	for how, line := range []string{"inv call k1 k2", "inv return k1 k2", "inv fork k1 k2"} {
		m, d := machine(t, line)
		for i := range d.Regs {
			d.Regs[i] = uint32(i) + 10
		}
		for i := range d.Keys {
			d.Keys[i] = key.Num(uint32(i))
		}
		was := *d
		want := cpu.Event{Kind: cpu.Invokes, How: how, Key: key.Num(1), Note: api.Note{Order: 10, Words: [3]uint32{11, 12, 13}, Keys: [3]api.Key{key.Num(2), key.Num(3), key.Num(4)}}}
		if e := cpu.Step(m, d); e != want {
			t.Error(e)
		}
		was.PC = 1
		if *d != was {
			t.Error("more than PC changed")
		}
	}
}

// P17.2: three key registers, round behind 15.
func TestSent(t *testing.T) {
	var d dom.Domain
	for i := range d.Keys {
		d.Keys[i] = key.Num(uint32(i))
	}
	for _, x := range []struct {
		from int
		want [3]api.Key
	}{
		{0, [3]api.Key{key.Num(0), key.Num(1), key.Num(2)}}, {13, [3]api.Key{key.Num(13), key.Num(14), key.Num(15)}},
		{14, [3]api.Key{key.Num(14), key.Num(15), key.Num(0)}}, {15, [3]api.Key{key.Num(15), key.Num(0), key.Num(1)}},
		{16, [3]api.Key{}}, {-1, [3]api.Key{}}, {math.MaxInt, [3]api.Key{}}, {math.MinInt, [3]api.Key{}},
	} {
		if got := cpu.Sent(d, x.from); got != x.want {
			t.Error(x.from, got)
		}
	}
}

// P17.2: what is taken, and that all else stays.
func TestTake(t *testing.T) {
	var was dom.Domain
	for i := range was.Keys {
		was.Keys[i] = key.Num(uint32(i))
	}
	for i := range was.Regs {
		was.Regs[i] = uint32(i) + 50
	}
	was.PC, was.State, was.Fault, was.Wait, was.Mem = 7, api.Waiting, 3, 4, key.Num(99)
	n := api.Note{Order: 1, Words: [3]uint32{2, 3, 4}, Keys: [3]api.Key{key.Num(31), key.Num(32), key.Num(33)}}
	back := api.Key{Kind: api.Resume, Data: 5}
	for _, x := range []struct {
		back []api.Key
		want api.Key
	}{{nil, api.Key{}}, {[]api.Key{back}, back}, {[]api.Key{back, key.Num(1)}, back}} {
		d, want := was, was
		cpu.Take(&d, n, 9, x.back...)
		want.Regs = [8]uint32{1, 2, 3, 4, 9, 55, 56, 57}
		want.Keys[12], want.Keys[13], want.Keys[14], want.Keys[15] = n.Keys[0], n.Keys[1], n.Keys[2], x.want
		if d != want {
			t.Error(x, d)
		}
	}
}

// P17.1, P0.8: whatever words a program is of, no step panics.
func TestAnyWords(t *testing.T) {
	r := rand.New(rand.NewSource(3))
	for range 300 {
		m, d := machine(t)
		for i := range 32 {
			w := r.Uint32()
			if r.Intn(4) > 0 {
				w = uint32(r.Intn(14))<<24 | uint32(r.Intn(8))<<20 | uint32(r.Intn(8))<<16 | uint32(r.Intn(40))
			}
			m.Pages.Write(0, i, w)
		}
		for range 100 {
			was := *d
			if e := cpu.Step(m, d); e.Kind == cpu.Faults && *d != was {
				t.Fatal("a fault changed it")
			}
		}
	}
}
