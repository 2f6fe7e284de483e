package page_test

import (
	"math"
	"slices"
	"testing"

	"turnkey/api"
	"turnkey/page"
)

func make1(t *testing.T, n int) *page.Pages {
	t.Helper()
	p, err := page.New(n)
	if err != nil {
		t.Fatal(err)
	}
	return p
}

// P5.1: arena's errors.
func TestNew(t *testing.T) {
	for _, n := range []int{0, -1, 257, math.MaxInt} {
		if p, err := page.New(n); p != nil || err != api.ErrRange {
			t.Error(n, err)
		}
	}
	if p := make1(t, 256); p.Cap() != 256 || p.Used() != 0 {
		t.Error(p.Cap(), p.Used())
	}
}

// P5.1: a page with these words, others 0.
func TestMake(t *testing.T) {
	p := make1(t, 2)
	if id, ver, err := p.Make(7, 8); id != 0 || ver != 0 || err != nil {
		t.Fatal(id, ver, err)
	}
	want := make([]uint32, 32)
	want[0], want[1] = 7, 8
	if !slices.Equal(p.Words(0), want) {
		t.Error(p.Words(0))
	}
	full := make([]uint32, 32)
	for i := range full {
		full[i] = uint32(i) + 1
	}
	if id, _, err := p.Make(full...); id != 1 || err != nil || !slices.Equal(p.Words(1), full) {
		t.Error(id, err, p.Words(1))
	}
	full[0] = 99
	if p.Words(1)[0] != 1 {
		t.Error("what was handed in is kept")
	}
}

// P5.1: too many words, ahead of no room; nothing is changed.
func TestMakeErrors(t *testing.T) {
	p := make1(t, 1)
	many := make([]uint32, 33)
	if id, ver, err := p.Make(many...); id != 0 || ver != 0 || err != api.ErrMany || p.Used() != 0 {
		t.Error(id, ver, err)
	}
	p.Make(5)
	if _, _, err := p.Make(many...); err != api.ErrMany {
		t.Error(err)
	}
	if id, ver, err := p.Make(1); id != 0 || ver != 0 || err != api.ErrFull || p.Words(0)[0] != 5 {
		t.Error(id, ver, err, p.Words(0))
	}
}

// P5.1: a page made anew has none of the words that stood there.
func TestMakeAnew(t *testing.T) {
	p := make1(t, 1)
	p.Make(1, 2, 3)
	p.Write(0, 31, 9)
	p.Give(0)
	if id, ver, err := p.Make(4); id != 0 || ver != 1 || err != nil {
		t.Fatal(id, ver, err)
	}
	if !slices.Equal(p.Words(0), append([]uint32{4}, make([]uint32, 31)...)) {
		t.Error(p.Words(0))
	}
}

// P5.1: Take makes one whose words are as they were left.
func TestTakeLeavesWords(t *testing.T) {
	p := make1(t, 1)
	p.Make(1, 2)
	p.Give(0)
	if id, ver, err := p.Take(); id != 0 || ver != 1 || err != nil || p.Words(0)[1] != 2 {
		t.Error(id, ver, err, p.Words(0))
	}
}

// P5.1: reading and writing, and the places that are none.
func TestReadWrite(t *testing.T) {
	p := make1(t, 2)
	p.Make()
	for _, at := range []int{0, 31} {
		if !p.Write(0, at, uint32(at)+5) {
			t.Error(at)
		}
		if w, ok := p.Read(0, at); !ok || w != uint32(at)+5 {
			t.Error(at, w, ok)
		}
	}
	for _, x := range [][2]int{{0, -1}, {0, 32}, {0, math.MaxInt}, {1, 0}, {-1, 0}, {2, 0}, {math.MaxInt, 0}} {
		if p.Write(x[0], x[1], 1) {
			t.Error("written", x)
		}
		if w, ok := p.Read(x[0], x[1]); ok || w != 0 {
			t.Error("read", x)
		}
	}
	p.Give(0)
	if _, ok := p.Read(0, 0); ok || p.Write(0, 0, 1) || len(p.Words(0)) != 0 {
		t.Error("of one that was given back")
	}
}

// P5.1: the words handed out are new memory.
func TestWordsNewMemory(t *testing.T) {
	p := make1(t, 2)
	p.Make(1)
	p.Make(2)
	w := p.Words(0)
	w[0] = 77
	_ = append(w, 88)
	if p.Words(0)[0] != 1 || p.Words(1)[0] != 2 {
		t.Error(p.Words(0), p.Words(1))
	}
}

// P5.1: a clone goes its own way.
func TestClone(t *testing.T) {
	p := make1(t, 2)
	p.Make(1)
	q := p.Clone()
	q.Write(0, 0, 5)
	p.Write(0, 1, 6)
	q.Make(9)
	if p.Words(0)[0] != 1 || q.Words(0)[0] != 5 || q.Words(0)[1] != 0 || p.There(1) || !q.There(1) {
		t.Error(p.Words(0), q.Words(0))
	}
}
