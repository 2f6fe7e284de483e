package store_test

import (
	"math"
	"testing"

	"turnkey/api"
	"turnkey/key"
	"turnkey/right"
	"turnkey/store"
)

func make1(t *testing.T) *store.Store {
	t.Helper()
	s, err := store.New(4, 3)
	if err != nil {
		t.Fatal(err)
	}
	return s
}

func with(k api.Key, rights int) api.Key {
	k.Rights = rights
	return k
}

// keys that are no nodes and no pages, or not live.
func strangers(s *store.Store) []api.Key {
	id, ver, _ := s.Nodes.Make()
	s.Nodes.Give(id)
	pid, pver, _ := s.Pages.Make()
	s.Pages.Give(pid)
	return []api.Key{
		{}, key.Num(1), {Kind: api.Domain}, {Kind: api.Start}, {Kind: api.Bank}, {Kind: 15}, {Kind: -1},
		{Kind: api.Node, ID: id, Ver: ver}, {Kind: api.Page, ID: pid, Ver: pver},
		{Kind: api.Node, ID: -1}, {Kind: api.Page, ID: -1}, {Kind: api.Node, ID: 99}, {Kind: api.Page, ID: math.MaxInt},
	}
}

// P8.1: node's error, then page's.
func TestNew(t *testing.T) {
	for _, x := range [][2]int{{0, 3}, {3, 0}, {257, 3}, {3, 257}, {-1, -1}} {
		if s, err := store.New(x[0], x[1]); s != nil || err != api.ErrRange {
			t.Error(x, err)
		}
	}
	if s := make1(t); s.Nodes.Cap() != 4 || s.Pages.Cap() != 3 {
		t.Error(s.Nodes.Cap(), s.Pages.Cap())
	}
}

// P8.1: live nodes and pages, by their own tables.
func TestLive(t *testing.T) {
	s := make1(t)
	s.Nodes.Make()
	s.Pages.Make()
	s.Pages.Make()
	for _, x := range []struct {
		k    api.Key
		want bool
	}{
		{api.Key{Kind: api.Node}, true}, {api.Key{Kind: api.Node, Rights: 7, Data: 4}, true}, {api.Key{Kind: api.Node, ID: 1}, false}, {api.Key{Kind: api.Node, Ver: 1}, false},
		{api.Key{Kind: api.Page, ID: 1}, true}, {api.Key{Kind: api.Page, ID: 2}, false},
		{api.Key{}, false}, {key.Num(3), false}, {api.Key{Kind: api.Domain}, false}, {api.Key{Kind: api.Clock}, false},
	} {
		if s.Live(x.k) != x.want {
			t.Error(x.k)
		}
	}
	for _, k := range strangers(s) {
		if s.Live(k) {
			t.Error(k)
		}
	}
}

// P8.1: what is fetched, by each row of rights.
func TestFetch(t *testing.T) {
	s := make1(t)
	s.Pages.Make()
	held := []api.Key{s.PageKey(0), {Kind: api.Start, Data: 3}, key.Num(4), {Kind: api.Page, ID: 2, Ver: 9}}
	s.Nodes.Make(held...)
	for rights := range 8 {
		k := with(s.NodeKey(0, 1), rights)
		for slot, x := range held {
			want, wantErr := right.Through(rights, x), error(nil)
			if rights&api.NoCall != 0 {
				want, wantErr = api.Key{}, api.ErrRight
			}
			if got, err := s.Fetch(k, slot); got != want || err != wantErr {
				t.Error(rights, slot, got, err)
			}
		}
	}
	for _, slot := range []int{-1, 16, math.MaxInt, math.MinInt} {
		if got, err := s.Fetch(s.NodeKey(0, 0), slot); got != (api.Key{}) || err != api.ErrRange {
			t.Error(slot, got, err)
		}
		if _, err := s.Fetch(with(s.NodeKey(0, 0), api.NoCall), slot); err != api.ErrRight {
			t.Error(slot, err)
		}
	}
	for _, k := range append(strangers(s), s.PageKey(0)) {
		if got, err := s.Fetch(with(k, api.NoCall), -1); got != (api.Key{}) || err != api.ErrNone {
			t.Error(k, got, err)
		}
	}
}

// P8.1: what is swapped, by each row of rights.
func TestSwap(t *testing.T) {
	for rights := range 8 {
		s := make1(t)
		s.Nodes.Make(key.Num(1))
		s.Pages.Make()
		k := with(s.NodeKey(0, 2), rights)
		got, err := s.Swap(k, 0, key.Num(2))
		now, _ := s.Nodes.Get(0, 0)
		if rights == 0 && (got != key.Num(1) || err != nil || now != key.Num(2)) {
			t.Error(rights, got, err, now)
		}
		if rights != 0 && (got != (api.Key{}) || err != api.ErrRight || now != key.Num(1)) {
			t.Error(rights, got, err, now)
		}
	}
}

// P8.1: Swap's errors in their order, with nothing changed.
func TestSwapErrors(t *testing.T) {
	s := make1(t)
	s.Nodes.Make(key.Num(1))
	s.Pages.Make()
	bad := api.Key{Kind: 15}
	k := s.NodeKey(0, 0)
	for _, l := range [][]api.Key{strangers(s), {s.PageKey(0)}} {
		for _, x := range l {
			if _, err := s.Swap(with(x, 7), -1, bad); err != api.ErrNone {
				t.Error(x, err)
			}
		}
	}
	for _, x := range []struct {
		k    api.Key
		slot int
		x    api.Key
		want error
	}{
		{with(k, api.NoCall), 16, bad, api.ErrRight}, {with(k, api.ReadOnly), 16, bad, api.ErrRight}, {with(k, api.Weak), 16, bad, api.ErrRight},
		{k, 16, bad, api.ErrRange}, {k, -1, bad, api.ErrRange},
		{k, 0, bad, api.ErrShape}, {k, 0, api.Key{Kind: api.Page, ID: 256}, api.ErrRange},
	} {
		if got, err := s.Swap(x.k, x.slot, x.x); got != (api.Key{}) || err != x.want {
			t.Error(x, got, err)
		}
	}
	if now, _ := s.Nodes.Get(0, 0); now != key.Num(1) {
		t.Error(now)
	}
}

// P8.1: what was is told as it stood, live or not.
func TestSwapDead(t *testing.T) {
	s := make1(t)
	dead := api.Key{Kind: api.Page, ID: 2, Ver: 5}
	s.Nodes.Make(dead)
	if got, err := s.Swap(s.NodeKey(0, 0), 0, api.Key{}); got != dead || err != nil {
		t.Error(got, err)
	}
}

// P8.1: words by keys to pages, by each row of rights.
func TestPeekPoke(t *testing.T) {
	for rights := range 8 {
		s := make1(t)
		s.Pages.Make(5)
		k := with(s.PageKey(0), rights)
		want, wantErr := uint32(5), error(nil)
		if rights&api.NoCall != 0 {
			want, wantErr = 0, api.ErrRight
		}
		if w, err := s.Peek(k, 0); w != want || err != wantErr {
			t.Error(rights, w, err)
		}
		err := s.Poke(k, 0, 6)
		now, _ := s.Pages.Read(0, 0)
		if rights == 0 && (err != nil || now != 6) || rights != 0 && (err != api.ErrRight || now != 5) {
			t.Error(rights, err, now)
		}
	}
}

// P8.1: the errors of Peek and Poke in their order.
func TestPeekPokeErrors(t *testing.T) {
	s := make1(t)
	s.Pages.Make(5)
	s.Nodes.Make()
	for _, x := range append(strangers(s), s.NodeKey(0, 0)) {
		if w, err := s.Peek(with(x, 7), -1); w != 0 || err != api.ErrNone {
			t.Error(x, w, err)
		}
		if err := s.Poke(with(x, 7), -1, 1); err != api.ErrNone {
			t.Error(x, err)
		}
	}
	for _, at := range []int{-1, 32, math.MaxInt, math.MinInt} {
		if w, err := s.Peek(s.PageKey(0), at); w != 0 || err != api.ErrRange {
			t.Error(at, w, err)
		}
		if err := s.Poke(s.PageKey(0), at, 1); err != api.ErrRange {
			t.Error(at, err)
		}
		if err := s.Poke(with(s.PageKey(0), api.ReadOnly), at, 1); err != api.ErrRight {
			t.Error(at, err)
		}
	}
	if err := s.Poke(s.PageKey(0), 31, 9); err != nil {
		t.Error(err)
	}
}

// P8.2: the keys to what is there, as it is now.
func TestKeys(t *testing.T) {
	s := make1(t)
	s.Nodes.Make()
	s.Nodes.Give(0)
	s.Nodes.Make()
	s.Pages.Make()
	s.Pages.Give(0)
	s.Pages.Make()
	for height := range 5 {
		if k := s.NodeKey(0, height); k != (api.Key{Kind: api.Node, Ver: 1, Data: uint32(height)}) {
			t.Error(height, k)
		}
	}
	if k := s.PageKey(0); k != (api.Key{Kind: api.Page, Ver: 1}) {
		t.Error(k)
	}
	for _, x := range [][2]int{{0, -1}, {0, 5}, {0, math.MaxInt}, {1, 0}, {-1, 0}, {4, 0}, {math.MaxInt, 0}} {
		if k := s.NodeKey(x[0], x[1]); k != (api.Key{}) {
			t.Error(x, k)
		}
	}
	for _, id := range []int{1, -1, 3, math.MaxInt} {
		if k := s.PageKey(id); k != (api.Key{}) {
			t.Error(id, k)
		}
	}
}

// P8.2: a clone goes its own way.
func TestClone(t *testing.T) {
	s := make1(t)
	s.Nodes.Make(key.Num(1))
	s.Pages.Make(1)
	c := s.Clone()
	c.Swap(c.NodeKey(0, 0), 0, key.Num(2))
	c.Poke(c.PageKey(0), 0, 2)
	if k, _ := s.Fetch(s.NodeKey(0, 0), 0); k != key.Num(1) {
		t.Error(k)
	}
	if w, _ := s.Peek(s.PageKey(0), 0); w != 1 {
		t.Error(w)
	}
}
