package cache_test

import (
	"math"
	"testing"

	"turnkey/api"
	"turnkey/cache"
	"turnkey/path"
	"turnkey/store"
)

func make1(t *testing.T, size int) *cache.Cache {
	t.Helper()
	c, err := cache.New(size)
	if err != nil {
		t.Fatal(err)
	}
	return c
}

// a store with a memory of height 2: two nodes of height 1, each of all pages there are, and its root key.
func memory(t *testing.T) (*store.Store, api.Key) {
	t.Helper()
	s, err := store.New(8, 32)
	if err != nil {
		t.Fatal(err)
	}
	top, _, _ := s.Nodes.Make()
	for i := range 2 {
		id, _, _ := s.Nodes.Make()
		for slot := range 16 {
			p, _, _ := s.Pages.Make()
			s.Nodes.Set(id, slot, s.PageKey(p))
		}
		s.Nodes.Set(top, i, s.NodeKey(id, 1))
	}
	return s, s.NodeKey(top, 2)
}

func finds(t *testing.T, c *cache.Cache, s *store.Store, root api.Key, addr uint32, hit bool) {
	t.Helper()
	hits := c.Hits()
	place, fault := c.Find(s, root, addr)
	if p, f := path.Walk(s, root, addr); p != place || f != fault {
		t.Errorf("Find(%v, %d) = %v, %d, not %v, %d", root, addr, place, fault, p, f)
	}
	if (c.Hits() == hits+1) != hit || c.Hits() > hits+1 {
		t.Errorf("Find(%v, %d): hits %d, then %d", root, addr, hits, c.Hits())
	}
}

// P10.1: how many ways there may be.
func TestNew(t *testing.T) {
	for _, n := range []int{0, -1, 65, math.MaxInt} {
		if c, err := cache.New(n); c != nil || err != api.ErrRange {
			t.Error(n, err)
		}
	}
	for _, n := range []int{1, 64} {
		if c := make1(t, n); c.Len() != 0 || c.Hits() != 0 {
			t.Error(c.Len(), c.Hits())
		}
	}
}

// P10.1: found once, a way is found again, for all its page of addresses.
func TestHits(t *testing.T) {
	s, root := memory(t)
	c := make1(t, 4)
	finds(t, c, s, root, 5, false)
	finds(t, c, s, root, 5, true)
	finds(t, c, s, root, 31, true)
	finds(t, c, s, root, 0, true)
	finds(t, c, s, root, 32, false)
	finds(t, c, s, root, 512+31, false)
	if c.Len() != 3 || c.Hits() != 3 {
		t.Error(c.Len(), c.Hits())
	}
}

// P10.1: the root key counts as it is, rights and height with it.
func TestRootAsItIs(t *testing.T) {
	s, root := memory(t)
	c := make1(t, 8)
	finds(t, c, s, root, 1, false)
	ro := root
	ro.Rights = api.ReadOnly
	finds(t, c, s, ro, 1, false)
	high := root
	high.Data = 3
	finds(t, c, s, high, 1, false)
	finds(t, c, s, root, 1, true)
	finds(t, c, s, ro, 1, true)
	finds(t, c, s, high, 1, true)
}

// P10.1: what faults isn't remembered.
func TestFaultsAreForgotten(t *testing.T) {
	s, root := memory(t)
	c := make1(t, 4)
	for range 2 {
		finds(t, c, s, root, 1024, false)
		finds(t, c, s, root, 8192, false)
		finds(t, c, s, api.Key{}, 0, false)
	}
	if c.Len() != 0 || c.Hits() != 0 {
		t.Error(c.Len(), c.Hits())
	}
}

// P10.1: one more than the size, and the eldest goes, however often it was found.
func TestEldestGoes(t *testing.T) {
	s, root := memory(t)
	c := make1(t, 2)
	finds(t, c, s, root, 0, false)
	finds(t, c, s, root, 32, false)
	finds(t, c, s, root, 0, true)
	finds(t, c, s, root, 64, false)
	if c.Len() != 2 {
		t.Error(c.Len())
	}
	finds(t, c, s, root, 64, true)
	finds(t, c, s, root, 32, true)
	finds(t, c, s, root, 0, false)
	finds(t, c, s, root, 32, false)
	for i := range uint32(32) {
		c.Find(s, root, i*32)
	}
	if c.Len() != 2 {
		t.Error(c.Len())
	}
}

// P10.1: told of a changed node, it forgets the ways through it, and those alone.
func TestForget(t *testing.T) {
	s, root := memory(t)
	c := make1(t, 8)
	for _, addr := range []uint32{0, 32, 512} {
		finds(t, c, s, root, addr, false)
	}
	s.Nodes.Set(1, 0, s.PageKey(20))
	c.Forget(1)
	if c.Len() != 1 {
		t.Error(c.Len())
	}
	finds(t, c, s, root, 512, true)
	finds(t, c, s, root, 0, false)
	c.Forget()
	c.Forget(7, -1, 99)
	if c.Len() != 2 {
		t.Error(c.Len())
	}
	finds(t, c, s, root, 32, false)
	s.Nodes.Set(2, 0, api.Key{})
	c.Forget(9, 2)
	finds(t, c, s, root, 512, false)
	if c.Len() != 2 {
		t.Error(c.Len())
	}
	c.Forget(root.ID)
	if c.Len() != 0 {
		t.Error(c.Len())
	}
}

// P10.1: told of an object that was given back, it forgets all; what was hit stays counted.
func TestClear(t *testing.T) {
	s, root := memory(t)
	c := make1(t, 4)
	finds(t, c, s, root, 0, false)
	finds(t, c, s, root, 0, true)
	s.Pages.Give(0)
	c.Clear()
	if c.Len() != 0 || c.Hits() != 1 {
		t.Error(c.Len(), c.Hits())
	}
	finds(t, c, s, root, 0, false)
	s2, root2 := memory(t)
	s2.Nodes.Set(1, 0, s2.PageKey(9))
	c.Clear()
	finds(t, c, s2, root2, 0, false)
}

// P10.1: a page as root has a way without nodes.
func TestPageRoot(t *testing.T) {
	s, _ := memory(t)
	c := make1(t, 4)
	finds(t, c, s, s.PageKey(3), 4, false)
	c.Forget(0, 1, 2)
	finds(t, c, s, s.PageKey(3), 5, true)
	finds(t, c, s, s.PageKey(3), 32, false)
}
