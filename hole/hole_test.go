package hole_test

import (
	"math/rand"
	"slices"
	"testing"

	"turnkey/api"
	"turnkey/hole"
	"turnkey/key"
	"turnkey/right"
)

func makerKey(id int) api.Key { return api.Key{Kind: api.Maker, ID: id} }

func sealed(id int, parts ...api.Key) hole.Factory {
	return hole.Factory{ID: id, Sealed: true, Parts: parts}
}

// P19.1: of each kind of key, without factories.
func TestIsByKind(t *testing.T) {
	for kind := api.Void; kind <= api.Clock; kind++ {
		want := kind != api.Void && kind != api.Number && kind != api.Judge && kind != api.Clock
		if hole.Is(api.Key{Kind: kind}) != want {
			t.Error(kind)
		}
	}
	for rights := range 8 {
		for _, kind := range []int{api.Node, api.Page} {
			if hole.Is(api.Key{Kind: kind, Rights: rights}) != (rights&5 != 5) {
				t.Error(kind, rights)
			}
		}
	}
	if !hole.Is(api.Key{Kind: 15}) || hole.Is(key.Num(7)) {
		t.Error("others")
	}
}

// P19.1: a Maker key of a factory that is sealed and has no holes.
func TestIsMaker(t *testing.T) {
	start := api.Key{Kind: api.Start}
	open := sealed(2)
	open.Sealed = false
	later := hole.Factory{ID: 0, Ver: 1, Sealed: true, Parts: []api.Key{start}}
	l := []hole.Factory{sealed(0, key.Num(1), api.Key{}), sealed(1, key.Num(1), start), open, later}
	for _, x := range []struct {
		k    api.Key
		want bool
	}{
		{makerKey(0), false}, {makerKey(1), true}, {makerKey(2), true}, {makerKey(3), true},
		{api.Key{Kind: api.Maker, Ver: 1}, true}, {api.Key{Kind: api.Maker, Ver: 2}, true}, {api.Key{Kind: api.Builder}, true},
	} {
		if hole.Is(x.k, l...) != x.want {
			t.Error(x)
		}
	}
	if !hole.Is(makerKey(0)) {
		t.Error("of none")
	}
}

// P19.1: of several with one number and version the first counts.
func TestFirstCounts(t *testing.T) {
	good, bad := sealed(3), sealed(3, api.Key{Kind: api.Console})
	if hole.Is(makerKey(3), good, bad) || !hole.Is(makerKey(3), bad, good) {
		t.Error("not the first")
	}
}

// P19.1: f's parts that are holes, in order, f sealed or not, and not one of l.
func TestOf(t *testing.T) {
	start, console := api.Key{Kind: api.Start, Data: 1}, api.Key{Kind: api.Console}
	l := []hole.Factory{sealed(0), sealed(1, start)}
	for _, isSealed := range []bool{false, true} {
		f := hole.Factory{ID: 9, Sealed: isSealed, Parts: []api.Key{console, makerKey(0), start, {}, makerKey(1), start, makerKey(9)}}
		parts := slices.Clone(f.Parts)
		want := []api.Key{console, start, makerKey(1), start, makerKey(9)}
		got := hole.Of(f, l...)
		if !slices.Equal(got, want) || hole.Closed(f, l...) {
			t.Error(got)
		}
		got[0] = api.Key{}
		if !slices.Equal(f.Parts, parts) {
			t.Error("f was changed")
		}
	}
	f := sealed(9, key.Num(1), makerKey(0))
	if got := hole.Of(f, l...); len(got) != 0 || !hole.Closed(f, l...) || !hole.Closed(hole.Factory{}) {
		t.Error(got)
	}
}

// P19.1: factories that come to themselves have for that no hole.
func TestRings(t *testing.T) {
	page := api.Key{Kind: api.Page}
	ring := func(last ...api.Key) []hole.Factory {
		return []hole.Factory{sealed(0, makerKey(1)), sealed(1, makerKey(2)), sealed(2, append(last, makerKey(0))...), sealed(3, makerKey(3))}
	}
	for id := range 4 {
		if l := ring(key.Num(1)); hole.Is(makerKey(id), l...) || !hole.Closed(l[id], l...) {
			t.Error(id, "a ring alone")
		}
		if l := ring(page); hole.Is(makerKey(id), l...) != (id < 3) {
			t.Error(id, "a ring with a hole")
		}
	}
	l := ring(page)
	if got := hole.Of(l[2], l...); !slices.Equal(got, []api.Key{page, makerKey(0)}) {
		t.Error(got)
	}
	self := sealed(0, makerKey(0))
	self.Sealed = false
	if got := hole.Of(self, self); !slices.Equal(got, []api.Key{makerKey(0)}) {
		t.Error(got)
	}
}

// P19.1: among any factories, a Maker key is a hole, if some part reached by Makers alone is one.
func TestAnyFactories(t *testing.T) {
	for seed := range int64(300) {
		r := rand.New(rand.NewSource(seed))
		var l []hole.Factory
		for id := range 6 {
			f := sealed(id)
			f.Sealed = r.Intn(8) > 0
			for range r.Intn(3) {
				f.Parts = append(f.Parts, makerKey(r.Intn(7)))
			}
			if r.Intn(5) == 0 {
				f.Parts = append(f.Parts, api.Key{Kind: api.Page})
			}
			l = append(l, f)
		}
		for id := range 7 {
			if hole.Is(makerKey(id), l...) != reachesOut(id, l, map[int]int{}) {
				t.Fatal(seed, id, l)
			}
		}
	}
}

func reachesOut(id int, l []hole.Factory, met map[int]int) bool {
	if met[id]++; met[id] > 1 {
		return false
	}
	if id >= len(l) || !l[id].Sealed {
		return true
	}
	for _, k := range l[id].Parts {
		if k.Kind == api.Maker && reachesOut(k.ID, l, met) || k.Kind != api.Maker && !right.Sensory(k) {
			return true
		}
	}
	return false
}

// P19.1: a long row of factories, each the next one's part.
func TestLongRow(t *testing.T) {
	const n = 100000
	l := make([]hole.Factory, n)
	for i := range l {
		l[i] = sealed(i, makerKey(i+1))
	}
	if !hole.Is(makerKey(0), l...) {
		t.Error("the last one's part is none of l")
	}
	l[n-1].Parts = nil
	if hole.Is(makerKey(0), l...) {
		t.Error("there is no hole")
	}
}
