package key_test

import (
	"math"
	"testing"

	"turnkey/api"
	"turnkey/key"
)

// the number of objects of each kind, by kind; 0: a kind without objects.
var objects = []int{0, 0, 256, 256, 32, 32, 32, 32, 64, 32, 32, 0, 0, 0, 0}

var names = []string{"void", "number", "node", "page", "domain", "start", "resume", "meter", "bank", "maker", "builder", "creator", "judge", "console", "clock"}

func maxData(kind int) uint32 {
	switch kind {
	case api.Number:
		return math.MaxUint32
	case api.Node:
		return 4
	case api.Start, api.Resume:
		return api.MaxData
	}
	return 0
}

func maxRights(kind int) int {
	if kind == api.Node || kind == api.Page {
		return 7
	}
	return 0
}

// the key of that kind each field of which is as great as it may be.
func greatest(kind int) api.Key {
	k := api.Key{Kind: kind, Rights: maxRights(kind), Data: maxData(kind)}
	if n := objects[kind]; n > 0 {
		k.ID, k.Ver = n-1, api.MaxVersion
	}
	return k
}

// P3.1: each field of each kind, to its ends and past them.
func TestValid(t *testing.T) {
	for kind := range names {
		k := greatest(kind)
		if key.Valid(k) != nil || key.Valid(api.Key{Kind: kind}) != nil {
			t.Error(k, key.Valid(k))
		}
		for i, change := range []func(k *api.Key){
			func(k *api.Key) { k.ID++ }, func(k *api.Key) { k.ID = -1 },
			func(k *api.Key) { k.Ver++ }, func(k *api.Key) { k.Ver = -1 },
			func(k *api.Key) { k.Rights++ }, func(k *api.Key) { k.Rights = -1 },
			func(k *api.Key) { k.ID = math.MaxInt }, func(k *api.Key) { k.ID = math.MinInt },
			func(k *api.Key) {
				if k.Data++; kind == api.Number {
					k.Rights = 1
				}
			},
		} {
			bad := k
			change(&bad)
			if err := key.Valid(bad); err != api.ErrRange {
				t.Error(names[kind], i, bad, err)
			}
		}
	}
}

// P3.1: no such kind, ahead of all else.
func TestValidKind(t *testing.T) {
	for _, kind := range []int{-1, 15, math.MaxInt, math.MinInt} {
		if err := key.Valid(api.Key{Kind: kind, ID: -1, Data: math.MaxUint32}); err != api.ErrShape {
			t.Error(kind, err)
		}
	}
}

// P3.1: a Number.
func TestNum(t *testing.T) {
	for _, n := range []uint32{0, 7, math.MaxUint32} {
		if k := key.Num(n); k != (api.Key{Kind: api.Number, Data: n}) {
			t.Error(k)
		}
	}
}

// P3.2: where each part stands.
func TestPackWords(t *testing.T) {
	for _, x := range []struct {
		k      api.Key
		lo, hi uint32
	}{
		{api.Key{}, 0, 0},
		{key.Num(math.MaxUint32), 1 << 28, math.MaxUint32},
		{api.Key{Kind: api.Node, ID: 255, Ver: 3, Rights: 5, Data: 4}, 2<<28 + 255<<20 + 3, 5<<29 + 4},
		{api.Key{Kind: api.Start, ID: 31, Ver: api.MaxVersion, Data: api.MaxData}, 5<<28 + 31<<20 + 1<<20 - 1, 1<<29 - 1},
		{api.Key{Kind: api.Clock}, 14 << 28, 0},
	} {
		if lo, hi, err := key.Pack(x.k); lo != x.lo || hi != x.hi || err != nil {
			t.Error(x.k, lo, hi, err)
		}
	}
}

// P3.2: what is packed comes back, of each kind.
func TestUnpackBack(t *testing.T) {
	for kind := range names {
		for _, k := range []api.Key{{Kind: kind}, greatest(kind)} {
			lo, hi, err := key.Pack(k)
			if err != nil {
				t.Fatal(k, err)
			}
			if got, err := key.Unpack(lo, hi); got != k || err != nil {
				t.Error(k, got, err)
			}
		}
	}
}

// P3.2: Valid's errors, and nothing beside them.
func TestPackErrors(t *testing.T) {
	for _, x := range []struct {
		k    api.Key
		want error
	}{{api.Key{Kind: 15}, api.ErrShape}, {api.Key{Kind: api.Page, ID: 256}, api.ErrRange}, {api.Key{Kind: api.Judge, Data: 1}, api.ErrRange}} {
		if lo, hi, err := key.Pack(x.k); err != x.want || lo != 0 || hi != 0 {
			t.Error(x.k, lo, hi, err)
		}
	}
	for _, x := range []struct {
		lo, hi uint32
		want   error
	}{{15 << 28, 0, api.ErrShape}, {1, 0, api.ErrRange}, {1 << 20, 0, api.ErrRange}, {1<<28 + 1, 0, api.ErrRange}, {4<<28 + 32<<20, 0, api.ErrRange}, {2 << 28, 5, api.ErrRange}, {5 << 28, 1 << 29, api.ErrRange}, {3 << 28, 1, api.ErrRange}} {
		if k, err := key.Unpack(x.lo, x.hi); err != x.want || k != (api.Key{}) {
			t.Error(x.lo, x.hi, k, err)
		}
	}
}

// P3.3: the names of the kinds.
func TestKind(t *testing.T) {
	for kind, want := range names {
		if key.Kind(kind) != want {
			t.Error(kind, key.Kind(kind))
		}
	}
	for _, kind := range []int{-1, 15, math.MaxInt} {
		if key.Kind(kind) != "" {
			t.Error(kind, key.Kind(kind))
		}
	}
}

// P3.3: keys told.
func TestText(t *testing.T) {
	for _, x := range []struct {
		k    api.Key
		want string
	}{
		{api.Key{}, "void"},
		{key.Num(0), "number 0"},
		{key.Num(math.MaxUint32), "number 4294967295"},
		{api.Key{Kind: api.Page, ID: 3, Ver: 2, Rights: api.ReadOnly}, "page 3.2 ro"},
		{api.Key{Kind: api.Node, ID: 200, Ver: api.MaxVersion, Rights: 7, Data: 4}, "node 200.1048575 +4 ro nocall weak"},
		{api.Key{Kind: api.Node, Rights: api.NoCall}, "node 0.0 nocall"},
		{api.Key{Kind: api.Page, Rights: api.Weak}, "page 0.0 weak"},
		{api.Key{Kind: api.Domain, ID: 31}, "domain 31.0"},
		{api.Key{Kind: api.Start, ID: 1, Data: 77}, "start 1.0 +77"},
		{api.Key{Kind: api.Resume, ID: 1, Ver: 4, Data: api.MaxData}, "resume 1.4 +536870911"},
		{api.Key{Kind: api.Meter, ID: 2}, "meter 2.0"},
		{api.Key{Kind: api.Bank, ID: 63, Ver: 1}, "bank 63.1"},
		{api.Key{Kind: api.Maker}, "maker 0.0"}, {api.Key{Kind: api.Builder}, "builder 0.0"},
		{api.Key{Kind: api.Creator}, "creator"}, {api.Key{Kind: api.Judge}, "judge"},
		{api.Key{Kind: api.Console}, "console"}, {api.Key{Kind: api.Clock}, "clock"},
		{api.Key{Kind: 15}, ""}, {api.Key{Kind: -1}, ""}, {api.Key{Kind: api.Page, Data: 1}, ""}, {api.Key{ID: 1}, ""},
	} {
		if got := key.Text(x.k); got != x.want {
			t.Errorf("%v: %q, not %q", x.k, got, x.want)
		}
	}
}

// P3.3: the first three, Voids behind.
func TestRow(t *testing.T) {
	a, b, c, d := key.Num(1), key.Num(2), key.Num(3), key.Num(4)
	if key.Row() != [3]api.Key{} || key.Row(a) != [3]api.Key{a} || key.Row(a, b) != [3]api.Key{a, b} || key.Row(a, b, c, d) != [3]api.Key{a, b, c} {
		t.Error(key.Row(), key.Row(a), key.Row(a, b), key.Row(a, b, c, d))
	}
}
