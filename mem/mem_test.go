package mem_test

import (
	"math/rand"
	"testing"

	"turnkey/api"
	"turnkey/key"
	"turnkey/mem"
	"turnkey/path"
)

func make1(t *testing.T, ways int) *mem.Memory {
	t.Helper()
	m, err := mem.New(8, 8, ways)
	if err != nil {
		t.Fatal(err)
	}
	return m
}

// a memory of height 1 with two pages, and its root key.
func small(t *testing.T) (*mem.Memory, api.Key) {
	m := make1(t, 4)
	m.Pages.Make(10, 11)
	m.Pages.Make(20, 21)
	id, _, _ := m.Nodes.Make(m.PageKey(0), m.PageKey(1))
	return m, m.NodeKey(id, 1)
}

func loads(t *testing.T, m *mem.Memory, root api.Key, addr, want uint32, fault int) {
	t.Helper()
	for range 2 {
		if w, f := m.Load(root, addr); w != want || f != fault {
			t.Errorf("Load(%v, %d) = %d, %d, not %d, %d", root, addr, w, f, want, fault)
		}
	}
}

// P11.1: the store's errors, then the cache's.
func TestNew(t *testing.T) {
	for _, x := range [][3]int{{0, 1, 1}, {1, 0, 1}, {1, 1, 0}, {257, 1, 1}, {1, 257, 1}, {1, 1, 65}, {1, 1, -1}} {
		if m, err := mem.New(x[0], x[1], x[2]); m != nil || err != api.ErrRange {
			t.Error(x, err)
		}
	}
	if m, err := mem.New(1, 1, 1); m == nil || err != nil {
		t.Error(err)
	}
}

// P11.1: saved, then loaded; each fault.
func TestLoadSave(t *testing.T) {
	m, root := small(t)
	loads(t, m, root, 0, 10, 0)
	loads(t, m, root, 33, 21, 0)
	if f := m.Save(root, 33, 77); f != 0 {
		t.Error(f)
	}
	loads(t, m, root, 33, 77, 0)
	loads(t, m, m.PageKey(1), 1, 77, 0)
	m.Set(0, 2, m.NodeKey(0, 1))
	for _, x := range []struct {
		addr  uint32
		fault int
	}{{512, api.FaultRange}, {64, api.FaultDepth}, {96, api.FaultVoid}} {
		loads(t, m, root, x.addr, 0, x.fault)
		if f := m.Save(root, x.addr, 1); f != x.fault {
			t.Error(x, f)
		}
	}
	loads(t, m, api.Key{}, 0, 0, api.FaultVoid)
}

// P11.1: a place that may only be read isn't written.
func TestFaultWrite(t *testing.T) {
	m, root := small(t)
	for _, rights := range []int{api.ReadOnly, api.Weak, api.ReadOnly | api.NoCall} {
		k := root
		k.Rights = rights
		if f := m.Save(k, 0, 99); f != api.FaultWrite {
			t.Error(rights, f)
		}
		if f := m.Save(k, 512, 99); f != api.FaultRange {
			t.Error(rights, f)
		}
		loads(t, m, k, 0, 10, 0)
	}
	k := root
	k.Rights = api.NoCall
	if f := m.Save(k, 0, 99); f != 0 {
		t.Error(f)
	}
	loads(t, m, root, 0, 99, 0)
}

// P11.1: ways stay right when slots change, by Set and by Swap.
func TestSlotsChange(t *testing.T) {
	m, root := small(t)
	loads(t, m, root, 0, 10, 0)
	if err := m.Set(0, 0, m.PageKey(1)); err != nil {
		t.Error(err)
	}
	loads(t, m, root, 0, 20, 0)
	if was, err := m.Swap(root, 0, m.PageKey(0)); was != m.PageKey(1) || err != nil {
		t.Error(was, err)
	}
	loads(t, m, root, 0, 10, 0)
	ro := m.PageKey(0)
	ro.Rights = api.ReadOnly
	m.Swap(root, 0, ro)
	if f := m.Save(root, 0, 1); f != api.FaultWrite {
		t.Error(f)
	}
	m.Set(0, 0, api.Key{})
	loads(t, m, root, 0, 0, api.FaultVoid)
}

// P11.1: ways stay right when objects are given back, and come anew.
func TestGivenBack(t *testing.T) {
	m, root := small(t)
	loads(t, m, root, 0, 10, 0)
	if err := m.GivePage(0); err != nil {
		t.Error(err)
	}
	loads(t, m, root, 0, 0, api.FaultVoid)
	m.Pages.Make(50)
	loads(t, m, root, 0, 0, api.FaultVoid)
	m.Set(0, 0, m.PageKey(0))
	loads(t, m, root, 0, 50, 0)
	if err := m.GiveNode(0); err != nil {
		t.Error(err)
	}
	loads(t, m, root, 0, 0, api.FaultVoid)
	m.Nodes.Make(m.PageKey(1))
	loads(t, m, root, 0, 0, api.FaultVoid)
	loads(t, m, m.NodeKey(0, 1), 0, 20, 0)
}

// P11.1: the errors are those of nodes, pages and the store.
func TestErrors(t *testing.T) {
	m, root := small(t)
	for _, x := range []struct {
		got, want error
	}{
		{m.Set(5, 99, api.Key{Kind: 15}), api.ErrNone}, {m.Set(0, 16, api.Key{Kind: 15}), api.ErrRange}, {m.Set(0, 0, api.Key{Kind: 15}), api.ErrShape},
		{m.GiveNode(1), api.ErrNone}, {m.GiveNode(-1), api.ErrNone}, {m.GivePage(2), api.ErrNone}, {m.GivePage(99), api.ErrNone},
	} {
		if x.got != x.want {
			t.Error(x.got, x.want)
		}
	}
	weak := root
	weak.Rights = api.Weak
	if was, err := m.Swap(weak, 0, api.Key{}); was != (api.Key{}) || err != api.ErrRight {
		t.Error(was, err)
	}
	loads(t, m, root, 0, 10, 0)
}

// P11.1: a copy goes its own way.
func TestCopy(t *testing.T) {
	m, root := small(t)
	loads(t, m, root, 0, 10, 0)
	c := m.Copy()
	c.Save(root, 0, 5)
	loads(t, m, root, 0, 10, 0)
	loads(t, c, root, 0, 5, 0)
	c.Set(0, 0, c.PageKey(1))
	m.GivePage(1)
	loads(t, m, root, 0, 10, 0)
	loads(t, c, root, 0, 20, 0)
	loads(t, m, root, 32, 0, api.FaultVoid)
}

// P11.1: whatever is done by the memory, Load tells what stands at path.Walk's place.
func TestCacheIsNeverWrong(t *testing.T) {
	for seed := range int64(20) {
		r := rand.New(rand.NewSource(seed))
		m := make1(t, 1+int(seed)%5)
		for range 2000 {
			change(m, r)
			root, addr := someKey(m, r), uint32(r.Intn(1200))
			w, f := m.Load(root, addr)
			place, fault := path.Walk(m.Store, root, addr)
			want, _ := m.Pages.Read(place.Page, place.At)
			if fault != 0 {
				want = 0
			}
			if w != want || f != fault {
				t.Fatalf("seed %d: %v, %d: %d, %d, not %d, %d", seed, root, addr, w, f, want, fault)
			}
		}
	}
}

func someKey(m *mem.Memory, r *rand.Rand) api.Key {
	var k api.Key
	switch r.Intn(8) {
	case 0:
		return key.Num(1)
	case 1, 2, 3:
		k = m.PageKey(r.Intn(8))
	default:
		k = m.NodeKey(r.Intn(8), r.Intn(4))
	}
	if k.Kind != api.Void && r.Intn(3) == 0 {
		k.Rights = r.Intn(8)
	}
	return k
}

func change(m *mem.Memory, r *rand.Rand) {
	switch r.Intn(7) {
	case 0:
		m.Nodes.Make(someKey(m, r), someKey(m, r), someKey(m, r))
	case 1:
		m.Pages.Make(r.Uint32())
	case 2:
		m.Set(r.Intn(8), r.Intn(4), someKey(m, r))
	case 3:
		m.Swap(someKey(m, r), r.Intn(4), someKey(m, r))
	case 4:
		m.Save(someKey(m, r), uint32(r.Intn(1200)), r.Uint32())
	case 5:
		if r.Intn(4) == 0 {
			m.GiveNode(r.Intn(8))
		}
	case 6:
		if r.Intn(4) == 0 {
			m.GivePage(r.Intn(8))
		}
	}
}
