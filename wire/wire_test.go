package wire_test

import (
	"errors"
	"math"
	"slices"
	"testing"

	"turnkey/api"
	"turnkey/wire"
)

func bytesOf(n int, last ...byte) []byte {
	return append(slices.Repeat([]byte{255}, n), last...)
}

// P1.1: zig-zag, seven bits a byte, the lowest first.
func TestPutNumbers(t *testing.T) {
	for _, x := range []struct {
		l    []int64
		want []byte
	}{
		{nil, nil},
		{[]int64{0}, []byte{0}},
		{[]int64{-1, 64}, []byte{1, 128, 1}},
		{[]int64{63, -64, -65}, []byte{126, 127, 129, 1}},
		{[]int64{8191, 8192}, []byte{254, 127, 128, 128, 1}},
		{[]int64{math.MaxInt64}, append([]byte{254}, bytesOf(8, 1)...)},
		{[]int64{math.MinInt64}, bytesOf(9, 1)},
	} {
		if b := wire.Put(nil, x.l...); !slices.Equal(b, x.want) {
			t.Errorf("Put(nil, %v) = %v, not %v", x.l, b, x.want)
		}
	}
}

// P1.1: b comes first, and the answer shares nothing with it.
func TestPutNewMemory(t *testing.T) {
	b := make([]byte, 2, 64)
	b[0], b[1] = 9, 8
	got := wire.Put(b, 5)
	if !slices.Equal(got, []byte{9, 8, 10}) || b[:3][2] != 0 {
		t.Error(got, b[:3])
	}
	got[0] = 77
	if b[0] != 9 {
		t.Error("b was changed by what was handed out")
	}
	same := wire.Put(b)
	same[1] = 77
	if b[1] != 8 {
		t.Error("Put without numbers hands out b itself")
	}
}

// P1.2: what was put is read, whole ranges of bytes on.
func TestNumReadsWhatPutWrote(t *testing.T) {
	var l []int64
	for i := range 63 {
		n := int64(1) << i
		l = append(l, n, -n, n-1, -n-1, n+1)
	}
	l = append(l, math.MaxInt64, math.MinInt64)
	b := wire.Put(nil, l...)
	r := wire.NewReader(b)
	for _, want := range l {
		if n := r.Num(math.MinInt64, math.MaxInt64); n != want {
			t.Fatalf("%d, not %d", n, want)
		}
		if r.At()+r.Left() != len(b) {
			t.Fatal(r.At(), r.Left())
		}
	}
	if r.Left() != 0 || r.Err() != nil {
		t.Error(r.Left(), r.Err())
	}
}

// P1.2: the errors, each around the place at which the number begins.
func TestNumErrors(t *testing.T) {
	for _, x := range []struct {
		name      string
		b         []byte
		low, high int64
		want      error
	}{
		{"nothing there", nil, 0, 9, api.ErrEnd},
		{"goes on, and ends", []byte{128}, 0, 9, api.ErrEnd},
		{"nine that go on", bytesOf(9), math.MinInt64, math.MaxInt64, api.ErrEnd},
		{"a 0 behind", []byte{128, 0}, 0, 9, api.ErrShape},
		{"a 0 at the tenth", bytesOf(9, 0), math.MinInt64, math.MaxInt64, api.ErrShape},
		{"above 64 bits", bytesOf(9, 2), math.MinInt64, math.MaxInt64, api.ErrShape},
		{"goes on at the tenth", bytesOf(9, 129, 1), math.MinInt64, math.MaxInt64, api.ErrShape},
		{"a shape ahead of a range", []byte{255, 0}, 0, 0, api.ErrShape},
		{"above", []byte{20}, 0, 9, api.ErrRange},
		{"below", []byte{1}, 0, 9, api.ErrRange},
		{"no number is from 9 to 0", []byte{2}, 9, 0, api.ErrRange},
	} {
		r := wire.NewReader(append([]byte{4}, x.b...))
		if n := r.Num(2, 2); n != 2 {
			t.Fatal(x.name, n)
		}
		n := r.Num(x.low, x.high)
		var at *api.At
		if n != 0 || !errors.As(r.Err(), &at) || at.Pos != 1 || at.Err != x.want || r.At() != 1 {
			t.Error(x.name, n, r.Err(), r.At())
		}
	}
}

// P1.2: the ends of the range are within it.
func TestNumEnds(t *testing.T) {
	r := wire.NewReader(wire.Put(nil, -3, 7))
	if r.Num(-3, 7) != -3 || r.Num(-3, 7) != 7 || r.Err() != nil {
		t.Error(r.Err())
	}
}

// P1.2: behind the first error nothing changes any more.
func TestFirstErrorStays(t *testing.T) {
	r := wire.NewReader([]byte{40, 2, 2})
	r.Num(0, 9)
	err, left := r.Err(), r.Left()
	if r.Num(math.MinInt64, math.MaxInt64) != 0 || r.Bool() || r.At() != 0 || r.Left() != left || r.Err() != err {
		t.Error("it went on", r.At(), r.Err())
	}
}

// P1.2: Bool is Num(0, 1) that is 1.
func TestBool(t *testing.T) {
	r := wire.NewReader([]byte{2, 0, 4})
	if !r.Bool() || r.Bool() || r.Err() != nil {
		t.Error(r.Err())
	}
	if r.Bool() || !errors.Is(r.Err(), api.ErrRange) || r.At() != 2 {
		t.Error(r.Err())
	}
}

// P1.2: a reader doesn't see what is written into its bytes later.
func TestReaderKeepsItsOwn(t *testing.T) {
	b := []byte{2, 4}
	r := wire.NewReader(b)
	b[0], b[1] = 0, 0
	if r.Num(0, 9) != 1 || r.Num(0, 9) != 2 {
		t.Error(r.Err())
	}
}
