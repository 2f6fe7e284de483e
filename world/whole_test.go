package world_test

import (
	"math/rand"
	"slices"
	"testing"

	"turnkey/api"
	"turnkey/boot"
	"turnkey/dom"
	"turnkey/graph"
	"turnkey/kern"
	"turnkey/key"
	"turnkey/object"
	"turnkey/world"
)

// What the whole promises: P0.8 to P0.12.

// a program that asks a creator for a factory of the page in key register 11, seals it, makes a domain of it by a
// bank and a meter of its own, calls that with 5, and tells the console what came back.
func factoryUser(t *testing.T) []string {
	return []string{
		"inv call k2 k14", "kmove k6 k12", // an open factory
		"kmove k7 k11", "inv call k6 k7", // part 0
		"li r0 1", "inv call k6 k14", "kmove k8 k12", // sealed
		"li r0 2", "li r1 9", "inv call k0 k14", "kmove k9 k12", // a bank of 9
		"li r0 2", "li r1 50", "inv call k1 k14", "kmove k10 k12", // a meter of 50
		"li r0 1", "inv call k8 k9", "kmove k7 k12", // made
		"li r1 5", "inv call k7 k13", // called
		"li r0 1", "inv call k4 k13", // told
		"halt",
	}
}

// a program that answers one more than what it is sent.
var adder = []string{"li r5 1", "alu add r1 r1 r5", "li r0 0", "inv return k15 k13", "jmp 0"}

// a world of one running program, that has a page of other words in key register 11.
func withPage(t *testing.T, lines []string, page ...uint32) *world.World {
	t.Helper()
	w, err := world.New(boot.Config{Sizes: sizes, Limit: 200, Programs: []boot.Program{{Words: words(t, lines...), Ticks: 1000, Run: true}}})
	if err != nil {
		t.Fatal(err)
	}
	id, _, err := w.Banks.Page(0, page...)
	if err != nil {
		t.Fatal(err)
	}
	if err := boot.Grant(w.System, 0, w.PageKey(id)); err != nil {
		t.Fatal(err)
	}
	return w
}

// P0.8, P0.12: a factory is filled, sealed, asked, and what it made is called and answers.
func TestFactoryWorks(t *testing.T) {
	w := withPage(t, factoryUser(t), words(t, adder...)...)
	for range 60 {
		w.Do(step(0))
	}
	if d, _ := w.Domains.Get(0); d.State != api.Halted || !slices.Equal(w.Out, []uint32{6}) {
		t.Error(d.State, d.PC, w.Out, w.Traces())
	}
	if w.Banks.Used(1) != 4 || w.Meters.Ticks(2) != 50-4 {
		t.Error(w.Banks.Used(1), w.Meters.Ticks(2))
	}
}

// any words, of which many are instructions, and many of those invoke.
func anyWords(r *rand.Rand) []uint32 {
	l := make([]uint32, 32)
	for i := range l {
		switch r.Intn(4) {
		case 0:
			l[i] = 11<<24 | uint32(r.Intn(3))<<20 | uint32(r.Intn(16))<<16 | uint32(r.Intn(16))<<12
		case 1:
			l[i] = 1<<24 | uint32(r.Intn(4))<<20 | uint32(r.Intn(10))
		case 2:
			l[i] = 8<<24 | uint32(r.Intn(16))<<20 | uint32(r.Intn(16))<<16
		default:
			l[i] = uint32(1+r.Intn(10))<<24 | uint32(r.Intn(8))<<20 | uint32(r.Intn(8))<<16 | uint32(r.Intn(40))
		}
	}
	return l
}

// a world with a running program of those words, and one that a factory of other words made out of bank 1, by a
// meter of its own, and that was begun by a fork that sends nothing: the product's domain is 1.
func confined(t *testing.T, user, product []uint32) *world.World {
	t.Helper()
	w, err := world.New(boot.Config{Sizes: sizes, Limit: 200, Programs: []boot.Program{{Words: user, Ticks: 100000, Run: true}}})
	if err != nil {
		t.Fatal(err)
	}
	s := w.System
	bank, _, _ := s.Banks.Sub(0, 40)
	meter, _, _ := s.Meters.Make(0, 100000)
	code, _, _ := s.Pages.Make(product...)
	s.Makers.Make()
	readable := sensory(s.PageKey(code))
	s.Makers.Install(0, 0, readable)
	s.Makers.Install(0, 1, key.Num(7))
	s.Makers.Seal(0)
	if len(s.Makers.Holes(0)) != 0 {
		t.Fatal("it has holes")
	}
	k, number := object.Build(s, 0, s.Key(api.Bank, bank), s.Key(api.Meter, meter))
	if number != api.OK {
		t.Fatal(number)
	}
	d, _ := s.Domains.Get(k.ID)
	d.State = api.Running
	s.Domains.Put(k.ID, d)
	s.Ready.Put(k.ID)
	return w
}

func sensory(k api.Key) api.Key {
	k.Rights = api.ReadOnly | api.Weak
	return k
}

// P0.10: whatever words it is of, what such a factory made comes to no key out of its bank.
func TestConfined(t *testing.T) {
	for seed := range int64(200) {
		r := rand.New(rand.NewSource(seed))
		w := confined(t, anyWords(r), anyWords(r))
		for range 400 {
			// The other one goes on too, but it isn't told of anything of the bank.
			w.Do(step(r.Intn(50)))
			if out := graph.Out(w.System, 1); len(out) != 0 {
				t.Fatal(seed, out)
			}
		}
	}
}

// steps who, if it is ready; else a step of nobody.
func name(w *world.World, who int) {
	at := slices.Index(w.Ready.All(), who)
	if at < 0 {
		w.Steps++
		return
	}
	w.Do(step(at))
}

// P0.11: two worlds differ in such a program's words alone: all others do the same in both.
func TestSilent(t *testing.T) {
	other := []string{"li r0 0", "inv call k5 k13", "li r0 1", "inv call k4 k13", "li r0 0", "inv call k1 k13", "alu add r6 r6 r1", "inv call k4 k13", "jmp 0"}
	for seed := range int64(200) {
		r := rand.New(rand.NewSource(seed))
		a := confined(t, words(t, other...), anyWords(r))
		b := confined(t, words(t, other...), anyWords(r))
		for range 400 {
			who := r.Intn(2)
			name(a, who)
			name(b, who)
		}
		if !slices.Equal(a.Seen(0), b.Seen(0)) || !slices.Equal(a.Out, b.Out) {
			t.Fatal(seed)
		}
		x, _ := a.Domains.Get(0)
		y, _ := b.Domains.Get(0)
		if x.Frame != y.Frame {
			t.Fatal(seed, x.Frame, y.Frame)
		}
	}
}

// P0.9: when a bank ends, what came from it and from those within it is gone, and all else stays.
func TestReclaimed(t *testing.T) {
	for seed := range int64(100) {
		r := rand.New(rand.NewSource(seed))
		w := confined(t, anyWords(r), anyWords(r))
		for range 200 {
			w.Do(step(r.Intn(50)))
		}
		if !w.Banks.There(1) {
			continue
		}
		gone := graph.Inside(w.System, 1)
		used := w.Banks.Used(0)
		free := w.Nodes.Left() + w.Pages.Left() + w.Domains.Left()
		before := w.Clone()
		w.Do(world.Act{Kind: world.End, A: 1})
		for _, k := range gone {
			if w.System.Seen(k) != (api.Key{}) {
				t.Fatal(seed, k)
			}
		}
		if w.Banks.Used(0) != used-len(gone) || w.Nodes.Left()+w.Pages.Left()+w.Domains.Left() != free+len(gone) {
			t.Fatal(seed, used, len(gone), w.Banks.Used(0))
		}
		for _, id := range w.Ready.All() {
			if !w.Domains.There(id) {
				t.Fatal(seed, id)
			}
		}
		staysElse(t, before, w)
	}
}

// staysElse compares what is there yet with what it was.
func staysElse(t *testing.T, before, now *world.World) {
	t.Helper()
	for id := range now.Nodes.Cap() {
		if now.Nodes.There(id) && !slices.Equal(now.Nodes.All(id), before.Nodes.All(id)) {
			t.Fatal("node", id)
		}
	}
	for id := range now.Pages.Cap() {
		if now.Pages.There(id) && !slices.Equal(now.Pages.Words(id), before.Pages.Words(id)) {
			t.Fatal("page", id)
		}
	}
	for id := range now.Domains.Cap() {
		x, ok := now.Domains.Get(id)
		if y, _ := before.Domains.Get(id); ok && x != y {
			t.Fatal("domain", id)
		}
	}
}

// P0.12: with less room a factory tells so at once, and the bank is as it was.
func TestWithin(t *testing.T) {
	for limit := range 8 {
		w := confined(t, nil, nil)
		bank, _, _ := w.Banks.Sub(0, limit)
		k, number := object.Build(w.System, 0, w.Key(api.Bank, bank), w.Key(api.Meter, 0))
		if limit < 4 && (number != api.AtLimit || k != (api.Key{}) || w.Banks.Used(bank) != 0) {
			t.Error(limit, k, number)
		}
		if limit >= 4 && (number != api.OK || k.Kind != api.Start || w.Banks.Used(bank) != 4) {
			t.Error(limit, k, number)
		}
	}
}

// P0.8: the same script tells the same, and no step panics.
func TestSameScript(t *testing.T) {
	for seed := range int64(50) {
		var told [2][]kern.Trace
		var last [2]dom.Domain
		for i := range told {
			r := rand.New(rand.NewSource(seed))
			w := confined(t, anyWords(r), anyWords(r))
			for range 500 {
				act := world.Act{Kind: 1 + r.Intn(3), A: r.Intn(9) - 2, Words: []uint32{r.Uint32()}}
				if r.Intn(200) == 0 {
					act.Kind = world.End
				}
				w.Do(act)
			}
			told[i] = w.Traces()
			last[i], _ = w.Domains.Get(0)
		}
		if !slices.Equal(told[0], told[1]) || last[0] != last[1] {
			t.Fatal(seed)
		}
	}
}
