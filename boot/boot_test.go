package boot_test

import (
	"math"
	"slices"
	"testing"

	"turnkey/api"
	"turnkey/boot"
	"turnkey/dom"
	"turnkey/key"
	"turnkey/sys"
)

var sizes = sys.Sizes{Nodes: 4, Pages: 8, Domains: 4, Meters: 5, Banks: 2, Makers: 1}

func boots(t *testing.T, c boot.Config) *sys.System {
	t.Helper()
	s, err := boot.Boot(c)
	if err != nil {
		t.Fatal(err)
	}
	return s
}

// P26.1: no program: a bank and a meter.
func TestNoProgram(t *testing.T) {
	s := boots(t, boot.Config{Sizes: sizes, Limit: 7})
	if s.Banks.Arena.Used() != 1 || s.Meters.Used() != 1 || s.Banks.Limit(0) != 7 || s.Banks.Used(0) != 0 || s.Meters.Ticks(0) != api.MaxTicks || s.Meters.Parent(0) != -1 {
		t.Error(s.Banks.Limit(0), s.Meters.Ticks(0))
	}
	if s.Nodes.Used()+s.Pages.Used()+s.Domains.Used()+s.Makers.Used()+s.Ready.Len()+s.Steps+len(s.In)+len(s.Out) != 0 {
		t.Error("there is more")
	}
}

// P26.1: what each program's domain has.
func TestPrograms(t *testing.T) {
	words := []uint32{5, 6}
	s := boots(t, boot.Config{Sizes: sizes, Limit: 12, Programs: []boot.Program{
		{Words: words, Ticks: 10, Keys: []int{2, 0, 1, 2, 2, 1}, Run: false},
		{Ticks: 0, Keys: []int{0}, Run: true},
		{Words: make([]uint32, 32), Ticks: api.MaxTicks, Run: true},
	}})
	words[0] = 99
	for id := range 3 {
		d, _ := s.Domains.Get(id)
		meter := api.Key{Kind: api.Meter, ID: id + 1}
		want := dom.Domain{Frame: api.Frame{State: api.Running}, Mem: s.NodeKey(id, 1), Meter: meter}
		copy(want.Keys[:], []api.Key{{Kind: api.Bank}, meter, {Kind: api.Creator}, {Kind: api.Judge}, {Kind: api.Console}, {Kind: api.Clock}})
		switch id {
		case 0:
			want.State = api.Available
			for i, to := range []int{2, 0, 1, 2, 2, 1} {
				want.Keys[6+i] = s.Domains.Door(to, 0)
			}
		case 1:
			want.Keys[6] = s.Domains.Door(0, 1)
		}
		if d != want {
			t.Errorf("%d: %v, not %v", id, d, want)
		}
		if l := s.Nodes.All(id); l[0] != s.PageKey(2*id) || l[1] != s.PageKey(2*id+1) || l[2] != (api.Key{}) {
			t.Error(id, l)
		}
		if s.Meters.Parent(id+1) != 0 {
			t.Error(id, "meter")
		}
	}
	if s.Meters.Ticks(1) != 10 || s.Meters.Ticks(2) != 0 || s.Meters.Ticks(3) != api.MaxTicks {
		t.Error("ticks")
	}
	if w := s.Pages.Words(0); w[0] != 5 || w[1] != 6 || w[2] != 0 || !slices.Equal(s.Pages.Words(1), make([]uint32, 32)) {
		t.Error(w)
	}
	if !slices.Equal(s.Ready.All(), []int{1, 2}) || s.Banks.Used(0) != 12 {
		t.Error(s.Ready.All(), s.Banks.Used(0))
	}
}

// P26.1: the errors of below, of the programs, and of their keys, in that order.
func TestBootErrors(t *testing.T) {
	long := boot.Program{Words: make([]uint32, 33), Ticks: -1}
	lost := boot.Program{Keys: []int{3}}
	many := boot.Program{Keys: []int{9, 9, 9, 9, 9, 9, 9}}
	for i, x := range []struct {
		sizes    sys.Sizes
		limit    int
		programs []boot.Program
		want     error
	}{
		{sys.Sizes{}, -1, nil, api.ErrRange},
		{sizes, -1, []boot.Program{long}, api.ErrRange}, {sizes, api.MaxLimit + 1, nil, api.ErrRange},
		{sizes, 9, []boot.Program{long}, api.ErrMany}, {sizes, 0, []boot.Program{long}, api.ErrMany},
		{sizes, 3, []boot.Program{{Ticks: -1}}, api.ErrLimit}, {sizes, 4, []boot.Program{{Ticks: -1}}, api.ErrRange}, {sizes, 4, []boot.Program{{Ticks: api.MaxTicks + 1}}, api.ErrRange},
		{sizes, 7, []boot.Program{lost, {}}, api.ErrLimit},
		{sizes, 20, []boot.Program{{}, {}, {}, {}, {}}, api.ErrFull},
		{sys.Sizes{Nodes: 4, Pages: 8, Domains: 4, Meters: 2, Banks: 1, Makers: 1}, 20, []boot.Program{many, {}}, api.ErrFull},
		{sizes, 20, []boot.Program{lost, long}, api.ErrMany},
		{sizes, 20, []boot.Program{lost, many}, api.ErrNone}, {sizes, 20, []boot.Program{many, lost}, api.ErrMany},
		{sizes, 20, []boot.Program{{Keys: []int{-1}}}, api.ErrNone}, {sizes, 20, []boot.Program{{Keys: []int{0, math.MaxInt}}}, api.ErrNone},
	} {
		if s, err := boot.Boot(boot.Config{Sizes: x.sizes, Limit: x.limit, Programs: x.programs}); s != nil || err != x.want {
			t.Error(i, err, x.want)
		}
	}
}

// P26.1: keys are granted from register 11 down.
func TestGrant(t *testing.T) {
	s := boots(t, boot.Config{Sizes: sizes, Limit: 20, Programs: []boot.Program{{}, {}}})
	l := []api.Key{key.Num(1), key.Num(2), key.Num(3), key.Num(4), {Kind: api.Page, ID: 200}}
	want, _ := s.Domains.Get(1)
	for i, k := range l {
		want.Keys[11-i] = k
	}
	if err := boot.Grant(s, 1, l...); err != nil {
		t.Error(err)
	}
	if got, _ := s.Domains.Get(1); got != want {
		t.Error(got)
	}
	shape, out := api.Key{Kind: 15}, api.Key{Kind: api.Page, ID: 256}
	for _, x := range []struct {
		to   int
		l    []api.Key
		want error
	}{
		{9, make([]api.Key, 6), api.ErrMany}, {9, []api.Key{shape}, api.ErrNone}, {2, nil, api.ErrNone}, {-1, nil, api.ErrNone},
		{1, []api.Key{key.Num(9), shape, out}, api.ErrShape}, {1, []api.Key{key.Num(9), out, shape}, api.ErrRange},
		{1, nil, nil},
	} {
		if err := boot.Grant(s, x.to, x.l...); err != x.want {
			t.Error(x, err)
		}
		if got, _ := s.Domains.Get(1); got != want {
			t.Error(x, got)
		}
	}
}
