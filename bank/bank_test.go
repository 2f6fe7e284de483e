package bank_test

import (
	"math"
	"math/rand"
	"slices"
	"testing"

	"turnkey/api"
	"turnkey/bank"
	"turnkey/dom"
	"turnkey/key"
	"turnkey/mem"
)

type world struct {
	m *mem.Memory
	d *dom.Domains
	b *bank.Banks
}

func make1(t *testing.T, nodes, pages, domains, banks int) world {
	t.Helper()
	m, err := mem.New(nodes, pages, 4)
	if err != nil {
		t.Fatal(err)
	}
	d, err := dom.New(domains)
	if err != nil {
		t.Fatal(err)
	}
	b, err := bank.New(banks, m, d)
	if err != nil {
		t.Fatal(err)
	}
	return world{m, d, b}
}

func used(t *testing.T, b *bank.Banks, want ...int) {
	t.Helper()
	for id, n := range want {
		if b.Used(id) != n {
			t.Errorf("bank %d uses %d, not %d", id, b.Used(id), n)
		}
	}
}

// P18.1: arena's errors.
func TestNew(t *testing.T) {
	w := make1(t, 1, 1, 1, 1)
	for _, n := range []int{0, -1, 257} {
		if b, err := bank.New(n, w.m, w.d); b != nil || err != api.ErrRange {
			t.Error(n, err)
		}
	}
}

// P18.1: banks, and their errors in order.
func TestRootSub(t *testing.T) {
	b := make1(t, 1, 1, 1, 12).b
	for _, limit := range []int{-1, api.MaxLimit + 1, math.MaxInt} {
		if id, ver, err := b.Root(limit); id != 0 || ver != 0 || err != api.ErrRange || b.Arena.Used() != 0 {
			t.Error(limit, id, ver, err)
		}
	}
	if id, ver, err := b.Root(api.MaxLimit); id != 0 || ver != 0 || err != nil {
		t.Fatal(id, ver, err)
	}
	for i := 1; i < 8; i++ {
		if id, _, err := b.Sub(i-1, i); id != i || err != nil {
			t.Fatal(id, err)
		}
	}
	for _, x := range []struct {
		id, limit int
		want      error
	}{{8, -1, api.ErrNone}, {-1, 1, api.ErrNone}, {99, 1, api.ErrNone}, {7, -1, api.ErrRange}, {7, 513, api.ErrRange}, {7, 1, api.ErrMany}} {
		if id, ver, err := b.Sub(x.id, x.limit); id != 0 || ver != 0 || err != x.want {
			t.Error(x, id, ver, err)
		}
	}
	for i := 8; i < 12; i++ {
		if id, _, err := b.Sub(6, 0); id != i || err != nil {
			t.Fatal(id, err)
		}
	}
	if _, _, err := b.Sub(7, 1); err != api.ErrMany {
		t.Error(err)
	}
	if _, _, err := b.Sub(0, 1); err != api.ErrFull {
		t.Error(err)
	}
	if _, _, err := b.Root(1); err != api.ErrFull {
		t.Error(err)
	}
	used(t, b, 0, 0, 0)
}

// P18.2: limit, parent, within.
func TestTells(t *testing.T) {
	b := make1(t, 1, 1, 1, 5).b
	b.Root(9)
	b.Sub(0, 5)
	b.Sub(1, 7)
	b.Root(3)
	for id, want := range []int{9, 5, 7, 3, 0} {
		if b.Limit(id) != want {
			t.Error(id, b.Limit(id))
		}
	}
	for id, want := range []int{-1, 0, 1, -1, -1} {
		if b.Parent(id) != want {
			t.Error(id, b.Parent(id))
		}
	}
	for _, id := range []int{-1, 5, math.MaxInt} {
		if b.Limit(id) != 0 || b.Parent(id) != -1 || b.Used(id) != 0 || len(b.Owned(id)) != 0 {
			t.Error(id)
		}
	}
	for id := range 5 {
		for in := range 5 {
			want := id == in && id < 4 || id == 2 && in < 2 || id == 1 && in == 0
			if b.Within(id, in) != want {
				t.Error(id, in)
			}
		}
	}
	if b.Within(-1, -1) || b.Within(0, -1) || b.Within(9, 9) {
		t.Error("of no bank")
	}
}

// P18.1: each object is the bank's, and counts for each that it is within.
func TestObjects(t *testing.T) {
	w := make1(t, 3, 3, 3, 3)
	w.b.Root(10)
	w.b.Sub(0, 5)
	if id, ver, err := w.b.Node(1, key.Num(4)); id != 0 || ver != 0 || err != nil || w.m.Nodes.All(0)[0] != key.Num(4) {
		t.Error(id, ver, err)
	}
	if id, ver, err := w.b.Page(0, 8); id != 0 || ver != 0 || err != nil || w.m.Pages.Words(0)[0] != 8 {
		t.Error(id, ver, err)
	}
	if id, ver, err := w.b.Domain(1); id != 0 || ver != 0 || err != nil {
		t.Error(id, ver, err)
	}
	w.b.Page(1)
	w.b.Node(1)
	used(t, w.b, 5, 4, 0)
	if got, want := w.b.Owned(1), []api.Key{{Kind: api.Node}, {Kind: api.Node, ID: 1}, {Kind: api.Page, ID: 1}, {Kind: api.Domain}}; !slices.Equal(got, want) {
		t.Error(got)
	}
	if got, want := w.b.Owned(0), []api.Key{{Kind: api.Page}}; !slices.Equal(got, want) {
		t.Error(got)
	}
	for _, k := range w.b.Owned(1) {
		if w.b.Owner(k) != 1 {
			t.Error(k)
		}
	}
	w.m.Pages.Make()
	for _, k := range []api.Key{{}, key.Num(1), w.d.Door(0, 0), {Kind: api.Bank}, {Kind: api.Node, ID: 2}, {Kind: api.Node, Ver: 1}, {Kind: api.Domain, ID: -1}, {Kind: 15}, w.m.PageKey(2)} {
		if w.b.Owner(k) != -1 {
			t.Error(k, w.b.Owner(k))
		}
	}
	if w.b.Owner(w.m.NodeKey(0, 3)) != 1 {
		t.Error("its height makes it another one")
	}
}

// P18.1: what is handed in, ahead of the limit, ahead of the room.
func TestObjectErrors(t *testing.T) {
	w := make1(t, 1, 1, 1, 3)
	w.b.Root(2)
	w.b.Sub(0, 3)
	w.b.Sub(0, 0)
	shape := api.Key{Kind: 15}
	manyKeys, manyWords := make([]api.Key, 17), make([]uint32, 33)
	manyKeys[0] = shape
	check := func(id, ver int, err, want error) {
		t.Helper()
		if id != 0 || ver != 0 || err != want {
			t.Error(id, ver, err, want)
		}
	}
	node := func(bank int, want error, keys ...api.Key) {
		t.Helper()
		id, ver, err := w.b.Node(bank, keys...)
		check(id, ver, err, want)
	}
	page := func(bank int, want error, words ...uint32) {
		t.Helper()
		id, ver, err := w.b.Page(bank, words...)
		check(id, ver, err, want)
	}
	domain := func(bank int, want error) {
		t.Helper()
		id, ver, err := w.b.Domain(bank)
		check(id, ver, err, want)
	}
	for _, none := range []int{3, -1, 99} {
		node(none, api.ErrNone, shape)
		page(none, api.ErrNone, manyWords...)
		domain(none, api.ErrNone)
	}
	node(2, api.ErrMany, manyKeys...)
	node(2, api.ErrShape, shape)
	page(2, api.ErrMany, manyWords...)
	node(2, api.ErrLimit)
	page(2, api.ErrLimit)
	domain(2, api.ErrLimit)
	used(t, w.b, 0, 0, 0)
	node(1, nil)
	node(1, api.ErrFull)
	page(1, nil)
	used(t, w.b, 2, 2, 0)
	for bank := range 3 {
		node(bank, api.ErrShape, shape)
		node(bank, api.ErrLimit)
		page(bank, api.ErrLimit)
		domain(bank, api.ErrLimit)
	}
	if w.m.Nodes.Used() != 1 || w.m.Pages.Used() != 1 || w.d.Used() != 0 {
		t.Error("something was taken")
	}
}

// P18.2: given back by the bank whose it is, and by no other.
func TestGive(t *testing.T) {
	w := make1(t, 3, 3, 3, 3)
	w.b.Root(10)
	w.b.Sub(0, 10)
	w.b.Node(1)
	w.b.Page(1)
	w.b.Domain(1)
	w.b.Domain(0)
	w.d.Stall(0, 1)
	n, p, d := w.m.NodeKey(0, 2), w.m.PageKey(0), w.d.Key(0)
	for _, x := range []struct {
		id   int
		k    api.Key
		want error
	}{
		{2, n, api.ErrNone}, {-1, n, api.ErrNone}, {1, api.Key{}, api.ErrNone}, {1, key.Num(0), api.ErrNone}, {1, api.Key{Kind: api.Node, ID: 1}, api.ErrNone}, {1, api.Key{Kind: api.Page, Ver: 1}, api.ErrNone},
		{1, w.d.Door(0, 0), api.ErrNone}, {1, api.Key{Kind: api.Bank}, api.ErrNone}, {1, api.Key{Kind: api.Domain, ID: 99}, api.ErrNone},
		{0, n, api.ErrOwn}, {0, p, api.ErrOwn}, {0, d, api.ErrOwn}, {1, w.d.Key(1), api.ErrOwn},
	} {
		if err := w.b.Give(x.id, x.k); err != x.want {
			t.Error(x, err)
		}
	}
	used(t, w.b, 4, 3)
	for i, k := range []api.Key{n, p, d} {
		if err := w.b.Give(1, k); err != nil {
			t.Error(k, err)
		}
		if err := w.b.Give(1, k); err != api.ErrNone {
			t.Error(k, err)
		}
		used(t, w.b, 3-i, 2-i)
	}
	if w.m.Nodes.Used() != 0 || w.m.Pages.Used() != 0 || w.d.Used() != 1 || len(w.d.Callers(0)) != 0 {
		t.Error("they are there yet")
	}
	w.m.Nodes.Make()
	if w.b.Owner(w.m.NodeKey(0, 0)) != -1 || w.b.Give(1, w.m.NodeKey(0, 0)) != api.ErrOwn {
		t.Error("what came anew is no bank's")
	}
}

// P18.2: a way that was found is forgotten, when its page is given back.
func TestGiveForgetsWays(t *testing.T) {
	w := make1(t, 1, 2, 1, 1)
	w.b.Root(10)
	w.b.Page(0, 5)
	w.b.Node(0, w.m.PageKey(0))
	root := w.m.NodeKey(0, 1)
	w.m.Load(root, 0)
	w.b.Give(0, w.m.PageKey(0))
	if _, f := w.m.Load(root, 0); f != api.FaultVoid {
		t.Error(f)
	}
}

// P18.2: a bank ends with those within it, and all that is theirs.
func TestEnd(t *testing.T) {
	w := make1(t, 8, 8, 8, 8)
	w.b.Root(50)
	w.b.Sub(0, 50)
	w.b.Sub(1, 50)
	w.b.Sub(0, 50)
	for id := range 4 {
		w.b.Node(id)
		w.b.Page(id)
		w.b.Domain(id)
	}
	w.b.Page(2)
	dead := slices.Concat(w.b.Owned(1), w.b.Owned(2))
	alive := slices.Concat(w.b.Owned(0), w.b.Owned(3))
	used(t, w.b, 13, 7, 4, 3)
	for _, id := range []int{4, -1, 99} {
		if n, err := w.b.End(id); n != 0 || err != api.ErrNone {
			t.Error(id, n, err)
		}
	}
	if n, err := w.b.End(1); n != 7 || err != nil {
		t.Error(n, err)
	}
	used(t, w.b, 6, 0, 0, 3)
	if w.b.There(1) || w.b.There(2) || !w.b.There(0) || !w.b.There(3) {
		t.Error("banks")
	}
	live := func(k api.Key) bool { return w.m.Live(k) || k.Kind == api.Domain && w.d.Live(k.ID, k.Ver) }
	if slices.ContainsFunc(dead, live) || !live(alive[0]) || len(alive) != 6 {
		t.Error(dead, alive)
	}
	for _, k := range alive {
		if !live(k) {
			t.Error(k)
		}
	}
	if id, ver, err := w.b.Root(5); id != 1 || ver != 1 || err != nil || w.b.Used(1) != 0 || len(w.b.Owned(1)) != 0 {
		t.Error(id, ver, err)
	}
	if n, err := w.b.End(1); n != 0 || err != nil {
		t.Error(n, err)
	}
}

// P18.2: a copy has the same banks, over others.
func TestCopy(t *testing.T) {
	w := make1(t, 3, 3, 3, 3)
	w.b.Root(5)
	w.b.Page(0)
	m, d := w.m.Copy(), w.d.Clone()
	c := w.b.Copy(m, d)
	c.Page(0)
	c.Sub(0, 1)
	w.b.Give(0, w.m.PageKey(0))
	if w.b.Used(0) != 0 || c.Used(0) != 2 || w.b.There(1) || w.m.Pages.Used() != 0 || m.Pages.Used() != 2 || len(c.Owned(0)) != 2 {
		t.Error(w.b.Used(0), c.Used(0))
	}
	c.End(0)
	if !w.b.There(0) || m.Pages.Used() != 0 {
		t.Error("they share")
	}
}

// P18.2: a copy over greater ones counts there, too.
func TestCopyOverGreater(t *testing.T) {
	w, g := make1(t, 1, 1, 1, 1), make1(t, 9, 9, 9, 1)
	w.b.Root(20)
	c := w.b.Copy(g.m, g.d)
	for range 5 {
		c.Node(0)
		c.Page(0)
		c.Domain(0)
	}
	if c.Used(0) != 15 || len(c.Owned(0)) != 15 || w.b.Used(0) != 0 || c.Owner(g.m.PageKey(4)) != 0 {
		t.Error(c.Used(0), len(c.Owned(0)))
	}
	if n, err := c.End(0); n != 15 || err != nil || g.m.Nodes.Used() != 0 {
		t.Error(n, err)
	}
}

// P0.9: counts are those of what is there; room is refused just at a limit, or where no object is left.
func TestAccounts(t *testing.T) {
	for seed := range int64(10) {
		r := rand.New(rand.NewSource(seed))
		w := make1(t, 6, 6, 6, 6)
		w.b.Root(12)
		for range 1500 {
			id := r.Intn(7) - 1
			switch r.Intn(9) {
			case 0:
				w.b.Sub(id, r.Intn(8))
			case 1:
				if id > 0 {
					w.b.End(id)
				}
			case 2, 3:
				if l := w.b.Owned(id); len(l) > 0 {
					w.b.Give(id, l[r.Intn(len(l))])
				}
			default:
				buys(t, w, id, r.Intn(3))
			}
			consistent(t, w)
		}
	}
}

func buys(t *testing.T, w world, id, kind int) {
	t.Helper()
	var err error
	left := []int{w.m.Nodes.Left(), w.m.Pages.Left(), w.d.Left()}[kind]
	want := error(nil)
	if left == 0 {
		want = api.ErrFull
	}
	for b := id; b >= 0; b = w.b.Parent(b) {
		if w.b.Used(b) >= w.b.Limit(b) {
			want = api.ErrLimit
		}
	}
	if !w.b.There(id) {
		want = api.ErrNone
	}
	switch kind {
	case 0:
		_, _, err = w.b.Node(id)
	case 1:
		_, _, err = w.b.Page(id)
	case 2:
		_, _, err = w.b.Domain(id)
	}
	if err != want {
		t.Fatal(err, want)
	}
}

func consistent(t *testing.T, w world) {
	t.Helper()
	all := 0
	for id := range 6 {
		n := 0
		for in := range 6 {
			if w.b.Within(in, id) {
				n += len(w.b.Owned(in))
			}
		}
		if w.b.Used(id) != n {
			t.Fatal(id, w.b.Used(id), n)
		}
		all += len(w.b.Owned(id))
	}
	if all != w.m.Nodes.Used()+w.m.Pages.Used()+w.d.Used() {
		t.Fatal(all)
	}
}
