package dom_test

import (
	"math"
	"slices"
	"testing"

	"turnkey/api"
	"turnkey/dom"
	"turnkey/key"
)

// n places, of which so many are taken.
func make1(t *testing.T, n, taken int) *dom.Domains {
	t.Helper()
	d, err := dom.New(n)
	if err != nil {
		t.Fatal(err)
	}
	for i := range taken {
		if id, ver, err := d.Make(); id != i || ver != 0 || err != nil {
			t.Fatal(id, ver, err)
		}
	}
	return d
}

// P16.1: arena's errors.
func TestNew(t *testing.T) {
	for _, n := range []int{0, -1, 257} {
		if d, err := dom.New(n); d != nil || err != api.ErrRange {
			t.Error(n, err)
		}
	}
}

// P16.1: a domain that is made is Available, all else 0 and Voids.
func TestMake(t *testing.T) {
	d := make1(t, 2, 1)
	fresh := dom.Domain{Frame: api.Frame{State: api.Available}}
	if x, ok := d.Get(0); !ok || x != fresh {
		t.Error(x, ok)
	}
	d.Put(0, dom.Domain{Frame: api.Frame{State: api.Halted, PC: 3, Fault: 2}, Mem: key.Num(1), Wait: 5})
	d.End(0)
	if id, ver, err := d.Make(); id != 0 || ver != 1 || err != nil {
		t.Error(id, ver, err)
	}
	if x, ok := d.Get(0); !ok || x != fresh {
		t.Error(x, ok)
	}
	d.Make()
	if id, ver, err := d.Make(); id != 0 || ver != 0 || err != api.ErrFull {
		t.Error(id, ver, err)
	}
}

// P16.1: all of a domain, there and back.
func TestGetPut(t *testing.T) {
	d := make1(t, 3, 2)
	x := dom.Domain{Mem: key.Num(1), Meter: key.Num(2), Keeper: key.Num(3), Wait: api.MaxData}
	x.State, x.Fault, x.PC, x.Regs[7], x.Keys[15] = api.Halted, api.FaultMeter, math.MaxUint32, 9, key.Num(4)
	if err := d.Put(1, x); err != nil {
		t.Fatal(err)
	}
	if got, ok := d.Get(1); !ok || got != x {
		t.Error(got)
	}
	if got, _ := d.Get(0); got == x {
		t.Error("the other one, too")
	}
	for _, id := range []int{2, 3, -1, math.MaxInt} {
		if got, ok := d.Get(id); ok || got != (dom.Domain{}) {
			t.Error(id, got)
		}
		if err := d.Put(id, dom.Domain{}); err != api.ErrNone {
			t.Error(id, err)
		}
	}
}

// P16.1: Put's errors in their order, with nothing changed.
func TestPutErrors(t *testing.T) {
	d := make1(t, 1, 1)
	shape, out := api.Key{Kind: 15}, api.Key{Kind: api.Page, ID: 256}
	was, _ := d.Get(0)
	for i, x := range []struct {
		change func(x *dom.Domain)
		want   error
	}{
		{func(x *dom.Domain) { x.State = api.Free }, api.ErrRange}, {func(x *dom.Domain) { x.State = 5 }, api.ErrRange}, {func(x *dom.Domain) { x.State = -1 }, api.ErrRange},
		{func(x *dom.Domain) { x.Fault = 7 }, api.ErrRange}, {func(x *dom.Domain) { x.Fault = -1 }, api.ErrRange},
		{func(x *dom.Domain) { x.Wait = -1 }, api.ErrRange}, {func(x *dom.Domain) { x.Wait = api.MaxData + 1 }, api.ErrRange},
		{func(x *dom.Domain) { x.Keys[0] = shape }, api.ErrShape}, {func(x *dom.Domain) { x.Keys[15] = out }, api.ErrRange}, {func(x *dom.Domain) { x.Keys[3], x.Keys[4] = out, shape }, api.ErrRange},
		{func(x *dom.Domain) { x.Mem = shape }, api.ErrShape}, {func(x *dom.Domain) { x.Meter = shape }, api.ErrShape}, {func(x *dom.Domain) { x.Keeper = shape }, api.ErrShape},
		{func(x *dom.Domain) { x.Mem, x.Meter = out, shape }, api.ErrRange}, {func(x *dom.Domain) { x.Keys[15], x.Mem = shape, out }, api.ErrShape}, {func(x *dom.Domain) { x.Meter, x.Keeper = shape, out }, api.ErrShape},
		{func(x *dom.Domain) { x.Wait, x.Keys[0] = -1, shape }, api.ErrRange},
	} {
		bad := was
		bad.PC = 77
		x.change(&bad)
		if err := d.Put(0, bad); err != x.want {
			t.Error(i, err, x.want)
		}
		if now, _ := d.Get(0); now != was {
			t.Error(i, now)
		}
	}
}

// P16.1: the keys as they are now.
func TestKeys(t *testing.T) {
	d := make1(t, 2, 1)
	d.End(0)
	d.Make()
	if k := d.Key(0); k != (api.Key{Kind: api.Domain, Ver: 1}) {
		t.Error(k)
	}
	for _, badge := range []uint32{0, 7, api.MaxData} {
		if k := d.Door(0, badge); k != (api.Key{Kind: api.Start, Ver: 1, Data: badge}) {
			t.Error(k)
		}
	}
	for _, badge := range []uint32{api.MaxData + 1, math.MaxUint32} {
		if k := d.Door(0, badge); k != (api.Key{}) {
			t.Error(k)
		}
	}
	for _, id := range []int{1, -1, 2, math.MaxInt} {
		if d.Key(id) != (api.Key{}) || d.Door(id, 0) != (api.Key{}) || d.Resume(id) != (api.Key{}) {
			t.Error(id)
		}
	}
}

// P16.1: the key of a wait, of one that is Waiting alone.
func TestResume(t *testing.T) {
	d := make1(t, 1, 1)
	for state := api.Available; state <= api.Halted; state++ {
		x, _ := d.Get(0)
		x.State, x.Wait = state, 6
		d.Put(0, x)
		want := api.Key{}
		if state == api.Waiting {
			want = api.Key{Kind: api.Resume, Data: 6}
		}
		if k := d.Resume(0); k != want {
			t.Error(state, k)
		}
	}
}

func calls(t *testing.T, d *dom.Domains, id int, want ...int) {
	t.Helper()
	if got := d.Callers(id); !slices.Equal(got, want) {
		t.Errorf("for %d wait %v, not %v", id, got, want)
	}
}

// P16.2: each waits for one, at the end of those that do.
func TestStall(t *testing.T) {
	d := make1(t, 6, 5)
	for _, who := range []int{3, 1, 2} {
		if !d.Stall(0, who) {
			t.Error(who)
		}
	}
	calls(t, d, 0, 3, 1, 2)
	if d.Stall(0, 3) {
		t.Error("it waits already")
	}
	calls(t, d, 0, 3, 1, 2)
	if !d.Stall(4, 1) {
		t.Error("for another one")
	}
	calls(t, d, 0, 3, 2)
	calls(t, d, 4, 1)
	if !d.Stall(0, 1) || !d.Stall(0, 0) {
		t.Error("back again, and for itself")
	}
	calls(t, d, 0, 3, 2, 1, 0)
	for _, x := range [][2]int{{5, 1}, {0, 5}, {-1, 1}, {0, -1}, {9, 1}, {0, 9}} {
		if d.Stall(x[0], x[1]) {
			t.Error(x)
		}
	}
	calls(t, d, 0, 3, 2, 1, 0)
	calls(t, d, 5)
	calls(t, d, -1)
}

// P16.2: they are woken, and wait no more.
func TestWake(t *testing.T) {
	d := make1(t, 4, 4)
	d.Stall(0, 2)
	d.Stall(0, 1)
	d.Stall(3, 0)
	if got := d.Wake(0); !slices.Equal(got, []int{2, 1}) {
		t.Error(got)
	}
	calls(t, d, 0)
	calls(t, d, 3, 0)
	if len(d.Wake(0)) != 0 || len(d.Wake(-1)) != 0 || len(d.Wake(9)) != 0 {
		t.Error("woken twice")
	}
	if !d.Stall(0, 2) {
		t.Error("it may wait again")
	}
}

// P16.2: given back; its callers wait no more, and it waits for nobody.
func TestEnd(t *testing.T) {
	d := make1(t, 4, 3)
	d.Stall(0, 1)
	d.Stall(2, 0)
	d.Stall(2, 1)
	d.Stall(0, 1)
	if err := d.End(0); err != nil || d.There(0) {
		t.Error(err)
	}
	calls(t, d, 0)
	calls(t, d, 2)
	d.Make()
	calls(t, d, 0)
	for _, id := range []int{3, -1, 4} {
		if err := d.End(id); err != api.ErrNone {
			t.Error(id, err)
		}
	}
}

// P16.2: a clone goes its own way, who waits for whom with it.
func TestClone(t *testing.T) {
	d := make1(t, 3, 3)
	d.Stall(0, 1)
	c := d.Clone()
	c.Stall(0, 2)
	calls(t, d, 0, 1)
	calls(t, c, 0, 1, 2)
	d.Wake(0)
	calls(t, c, 0, 1, 2)
	x, _ := c.Get(0)
	x.PC = 5
	c.Put(0, x)
	if y, _ := d.Get(0); y.PC != 0 {
		t.Error(y.PC)
	}
	d.End(2)
	if !c.There(2) {
		t.Error("they share")
	}
}
