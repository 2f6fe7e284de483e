package world_test

import (
	"math"
	"slices"
	"testing"

	"turnkey/api"
	"turnkey/asm"
	"turnkey/boot"
	"turnkey/kern"
	"turnkey/sys"
	"turnkey/world"
)

var sizes = sys.Sizes{Nodes: 32, Pages: 32, Domains: 16, Meters: 16, Banks: 8, Makers: 8}

func words(t *testing.T, lines ...string) []uint32 {
	t.Helper()
	w, err := asm.Text(lines...)
	if err != nil {
		t.Fatal(err)
	}
	return w
}

// a world of these programs, each of 100 ticks, running.
func make1(t *testing.T, programs ...[]string) *world.World {
	t.Helper()
	c := boot.Config{Sizes: sizes, Limit: 100}
	for _, lines := range programs {
		c.Programs = append(c.Programs, boot.Program{Words: words(t, lines...), Ticks: 100, Run: true})
	}
	w, err := world.New(c)
	if err != nil {
		t.Fatal(err)
	}
	return w
}

func step(choice int) world.Act { return world.Act{Kind: world.Step, A: choice} }

func traces(t *testing.T, got []kern.Trace, want ...kern.Trace) {
	t.Helper()
	if !slices.Equal(got, want) {
		t.Errorf("%+v, not %+v", got, want)
	}
}

var (
	ran0   = kern.Trace{Who: 0, Kind: kern.Ran, To: -1}
	yield1 = kern.Trace{Who: 1, Kind: kern.Yielded, To: -1}
	halt1  = kern.Trace{Who: 1, Kind: kern.Halted, To: -1}
	idle   = kern.Trace{Who: -1, To: -1}
)

// P27.1: boot's errors.
func TestNew(t *testing.T) {
	if w, err := world.New(boot.Config{}); w != nil || err != api.ErrRange {
		t.Error(err)
	}
	if w, err := world.New(boot.Config{Sizes: sizes, Programs: []boot.Program{{Words: make([]uint32, 33)}}}); w != nil || err != api.ErrMany {
		t.Error(err)
	}
	w := make1(t)
	traces(t, w.Traces())
	traces(t, w.Do())
	traces(t, w.Seen())
}

// P27.1: steps are told, and kept.
func TestSteps(t *testing.T) {
	w := make1(t, []string{"jmp 0"}, []string{"yield", "halt"})
	traces(t, w.Do(step(0), step(0), step(1)), ran0, yield1, halt1)
	traces(t, w.Do(world.Act{Kind: world.Fill}, step(5)), ran0)
	traces(t, w.Traces(), ran0, yield1, halt1, ran0)
	traces(t, w.Seen(0), ran0, ran0)
	traces(t, w.Seen(1, 9, 1), yield1, halt1)
	traces(t, w.Seen(1, 0), w.Traces()...)
	traces(t, w.Seen(7))
	w.Traces()[0] = idle
	w.Seen(0)[0] = idle
	traces(t, w.Traces(), ran0, yield1, halt1, ran0)
	if w.Steps != 4 {
		t.Error(w.Steps)
	}
	n := make1(t)
	traces(t, n.Do(step(3)), idle)
	traces(t, n.Seen(-1), idle)
}

// P27.1: other acts are nothing.
func TestOtherActs(t *testing.T) {
	w := make1(t, []string{"jmp 0"})
	for _, kind := range []int{0, 5, -1, math.MaxInt} {
		traces(t, w.Do(world.Act{Kind: kind, A: 0, Words: []uint32{1}}))
	}
	if len(w.In) != 0 || w.Steps != 0 || w.Banks.Limit(0) != 100 {
		t.Error(w.In, w.Steps)
	}
}

// P27.1: words stand in In, and no more than so many.
func TestType(t *testing.T) {
	w := make1(t)
	l := []uint32{1, 2}
	w.Do(world.Act{Kind: world.Type, Words: l}, world.Act{Kind: world.Type}, world.Act{Kind: world.Type, Words: []uint32{3}})
	l[0] = 9
	if !slices.Equal(w.In, []uint32{1, 2, 3}) {
		t.Error(w.In)
	}
	many := make([]uint32, 1020)
	many[1019] = 7
	w.Do(world.Act{Kind: world.Type, Words: many}, world.Act{Kind: world.Type, Words: []uint32{5, 6}})
	if len(w.In) != 1024 || w.In[1022] != 7 || w.In[1023] != 5 {
		t.Error(len(w.In))
	}
	w.In = w.In[1:]
	w.Do(world.Act{Kind: world.Type, Words: []uint32{8, 9}})
	if len(w.In) != 1024 || w.In[1023] != 8 {
		t.Error(len(w.In))
	}
}

// P27.1: ticks for a meter.
func TestFill(t *testing.T) {
	w := make1(t, []string{"jmp 0"})
	for _, a := range []int{1, 1, 5, -1, 99} {
		w.Do(world.Act{Kind: world.Fill, A: a})
	}
	if w.Meters.Ticks(1) != 2100 || w.Meters.Ticks(0) != api.MaxTicks {
		t.Error(w.Meters.Ticks(1))
	}
}

// P27.1: a bank ends, but the first one; who was its is not ready, who waited for it is.
func TestEnd(t *testing.T) {
	w := make1(t, []string{"jmp 0"})
	w.Banks.Sub(0, 50)
	w.Banks.Sub(1, 50)
	for _, bank := range []int{1, 2} {
		id, _, _ := w.Banks.Domain(bank)
		d, _ := w.Domains.Get(id)
		d.State = api.Running
		w.Domains.Put(id, d)
		w.Ready.Put(id)
	}
	w.Domains.Stall(2, 0)
	w.Ready.Drop(0)
	for _, bank := range []int{0, 3, -1, 99, math.MinInt} {
		w.Do(world.Act{Kind: world.End, A: bank})
	}
	if w.Banks.Used(0) != 6 || !slices.Equal(w.Ready.All(), []int{1, 2}) {
		t.Error(w.Banks.Used(0), w.Ready.All())
	}
	traces(t, w.Do(world.Act{Kind: world.End, A: 1}))
	if w.Banks.Used(0) != 4 || w.Banks.There(1) || w.Banks.There(2) || w.Domains.Used() != 1 || !slices.Equal(w.Ready.All(), []int{0}) {
		t.Error(w.Banks.Used(0), w.Ready.All())
	}
}

// P27.1: the last of many traces.
func TestManyTraces(t *testing.T) {
	w := make1(t, []string{"yield"})
	w.Do(step(0))
	var l []world.Act
	w.Ready.Drop(0)
	for range 4095 {
		l = append(l, step(0))
	}
	w.Do(l...)
	if got := w.Traces(); len(got) != 4096 || got[0].Who != 0 || len(w.Seen(-1)) != 4095 {
		t.Error(len(got))
	}
	w.Do(step(0))
	if got := w.Traces(); len(got) != 4096 || got[0] != idle || len(w.Seen(0)) != 0 {
		t.Error(len(got), got[0])
	}
	if got := w.Do(append(l, l...)...); len(got) != 2*4095 || len(w.Traces()) != 4096 {
		t.Error(len(got))
	}
}

// P27.1: a clone goes its own way, and the same script tells the same.
func TestClone(t *testing.T) {
	w := make1(t, []string{"jmp 0"}, []string{"yield", "halt"})
	w.Do(step(0), world.Act{Kind: world.Type, Words: []uint32{4}})
	c := w.Clone()
	traces(t, c.Traces(), w.Traces()...)
	got := c.Do(step(0), step(1), step(0), world.Act{Kind: world.Type, Words: []uint32{5}})
	traces(t, w.Traces(), ran0)
	if w.Steps != 1 || len(w.In) != 1 || w.Ready.Len() != 2 {
		t.Error(w.Steps, w.In)
	}
	traces(t, w.Do(step(0), step(1), step(0)), got...)
}
