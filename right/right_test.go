package right_test

import (
	"math"
	"testing"

	"turnkey/api"
	"turnkey/right"
)

// keys of each kind; of nodes and pages with each row of rights.
func keys() []api.Key {
	var l []api.Key
	for kind := api.Void; kind <= api.Clock; kind++ {
		k := api.Key{Kind: kind}
		switch kind {
		case api.Number:
			k.Data = 9
		case api.Node, api.Page:
			k.ID, k.Ver = 3, 2
			for rights := 1; rights < 8; rights++ {
				k.Rights = rights
				l = append(l, k)
			}
			k.Rights = 0
		case api.Start, api.Resume:
			k.ID, k.Data = 3, 5
		}
		l = append(l, k)
	}
	return l
}

func staysWhole(kind int) bool {
	return kind == api.Void || kind == api.Number || kind == api.Judge || kind == api.Clock
}

// P7.1: what is left of a key that is weakened, by kind.
func TestWeaken(t *testing.T) {
	for _, k := range keys() {
		want := api.Key{}
		if k.Kind == api.Node || k.Kind == api.Page {
			want = k
			want.Rights |= 5
		} else if staysWhole(k.Kind) {
			want = k
		}
		if got := right.Weaken(k); got != want {
			t.Error(k, got, want)
		}
	}
	if got := right.Weaken(api.Key{Kind: 15, Data: 3}); got != (api.Key{}) {
		t.Error(got)
	}
}

// P7.1: each of 1, 2, 4 is taken away of a node or page, other numbers nothing.
func TestLess(t *testing.T) {
	n := api.Key{Kind: api.Node, ID: 1, Rights: 1}
	for _, x := range []struct {
		k      api.Key
		rights []int
		want   int
	}{
		{n, nil, 1}, {n, []int{2}, 3}, {n, []int{4, 2}, 7}, {n, []int{1}, 1},
		{n, []int{0, 3, 5, 6, 7, 8, -1, math.MaxInt, math.MinInt}, 1},
		{api.Key{Kind: api.Page}, []int{1, 1, 4}, 5},
		{api.Key{Kind: api.Start}, []int{1, 2, 4}, 0}, {api.Key{Kind: api.Number}, []int{1}, 0}, {api.Key{}, []int{4}, 0},
	} {
		want := x.k
		want.Rights = x.want
		if got := right.Less(x.k, x.rights...); got != want {
			t.Error(x, got)
		}
	}
}

// P7.1: only Weak weakens what is fetched.
func TestThrough(t *testing.T) {
	for _, k := range keys() {
		for rights := range 8 {
			want := k
			if rights >= 4 {
				want = right.Weaken(k)
			}
			if got := right.Through(rights, k); got != want {
				t.Error(rights, k, got)
			}
		}
	}
}

// P7.1: sensory is what weakening leaves as it is.
func TestSensory(t *testing.T) {
	for _, k := range keys() {
		want := staysWhole(k.Kind)
		if k.Kind == api.Node || k.Kind == api.Page {
			want = k.Rights == 5 || k.Rights == 7
		}
		if right.Sensory(k) != want {
			t.Error(k)
		}
	}
}

// P7.1: what writes lacks neither ReadOnly nor Weak.
func TestWrites(t *testing.T) {
	for _, k := range keys() {
		want := (k.Kind == api.Node || k.Kind == api.Page) && (k.Rights == 0 || k.Rights == 2)
		if right.Writes(k) != want {
			t.Error(k)
		}
	}
}

// P7.2: the same but for rights, of which a lacks all that b lacks.
func TestWithin(t *testing.T) {
	for ar := range 8 {
		for br := range 8 {
			a, b := api.Key{Kind: api.Node, ID: 4, Ver: 1, Rights: ar, Data: 2}, api.Key{Kind: api.Node, ID: 4, Ver: 1, Rights: br, Data: 2}
			if right.Within(a, b) != (ar|br == ar) {
				t.Error(ar, br)
			}
		}
	}
	k := api.Key{Kind: api.Node, ID: 4, Ver: 1, Data: 2}
	for _, a := range []api.Key{
		{Kind: api.Page, ID: 4, Ver: 1, Data: 2}, {Kind: api.Node, ID: 3, Ver: 1, Data: 2},
		{Kind: api.Node, ID: 4, Ver: 2, Data: 2}, {Kind: api.Node, ID: 4, Ver: 1, Data: 1}, {},
	} {
		if right.Within(a, k) || right.Within(k, a) {
			t.Error(a)
		}
	}
}

// P7.2: weakening gives no more, and does no more the second time.
func TestWeakenIsWithin(t *testing.T) {
	for _, k := range keys() {
		w := right.Weaken(k)
		if w != (api.Key{}) && !right.Within(w, k) {
			t.Error(k, w)
		}
		if right.Weaken(w) != w {
			t.Error(k, w)
		}
	}
}
