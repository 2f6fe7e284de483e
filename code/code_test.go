package code_test

import (
	"errors"
	"math"
	"slices"
	"testing"

	"turnkey/api"
	"turnkey/code"
	"turnkey/word"
)

// the greatest instruction of each op: a field that is not named is 0.
var greatest = []code.Instr{
	{Op: code.Li, A: 7, Imm: 4095}, {Op: code.Lih, A: 7, Imm: 4095}, {Op: code.Alu, A: 7, B: 7, C: 7, Imm: 11},
	{Op: code.Jmp, Imm: 4095}, {Op: code.Jz, A: 7, Imm: 4095}, {Op: code.Load, A: 7, B: 7, Imm: 4095}, {Op: code.Save, A: 7, B: 7, Imm: 4095},
	{Op: code.Kmove, A: 15, B: 15}, {Op: code.Knum, A: 15, B: 7}, {Op: code.Kget, A: 7, B: 15},
	{Op: code.Inv, A: 2, B: 15, C: 15}, {Op: code.Yield}, {Op: code.Halt},
}

// P14.1: each field of each op, to its ends and past them.
func TestValid(t *testing.T) {
	for n, i := range greatest {
		if i.Op != n+1 || code.Valid(i) != nil || code.Valid(code.Instr{Op: i.Op}) != nil {
			t.Error(i, code.Valid(i))
		}
		for field := range 4 {
			for _, to := range []int{1, -math.MaxInt, math.MinInt} {
				bad := i
				f := []*int{&bad.A, &bad.B, &bad.C, &bad.Imm}[field]
				if *f += to; *f == math.MinInt && to > 0 {
					continue
				}
				if err := code.Valid(bad); err != api.ErrRange {
					t.Error(bad, err)
				}
				*f = -1
				if err := code.Valid(bad); err != api.ErrRange {
					t.Error(bad, err)
				}
			}
		}
	}
}

// P14.1: no such op, ahead of its fields.
func TestNoSuchOp(t *testing.T) {
	for _, op := range []int{0, -1, 14, math.MaxInt, math.MinInt} {
		i := code.Instr{Op: op, A: -1}
		if err := code.Valid(i); err != api.ErrWord {
			t.Error(op, err)
		}
		if w, err := code.Word(i); w != 0 || err != api.ErrWord {
			t.Error(op, w, err)
		}
		if code.Text(i) != "" {
			t.Error(op, code.Text(i))
		}
	}
}

// P14.1: where the fields stand.
func TestWord(t *testing.T) {
	for _, x := range []struct {
		i    code.Instr
		want uint32
	}{
		{code.Instr{Op: code.Li, A: 1, Imm: 5}, 1<<24 + 1<<20 + 5},
		{code.Instr{Op: code.Alu, A: 1, B: 2, C: 3, Imm: word.Eq}, 3<<24 + 1<<20 + 2<<16 + 3<<12 + 11},
		{code.Instr{Op: code.Inv, A: 2, B: 15, C: 12}, 11<<24 + 2<<20 + 15<<16 + 12<<12},
		{code.Instr{Op: code.Halt}, 13 << 24},
	} {
		if w, err := code.Word(x.i); w != x.want || err != nil {
			t.Error(x.i, w, err)
		}
	}
	if w, err := code.Word(code.Instr{Op: code.Li, A: 8}); w != 0 || err != api.ErrRange {
		t.Error(w, err)
	}
}

// P14.1: back, and what may not be.
func TestRead(t *testing.T) {
	for _, i := range greatest {
		w, _ := code.Word(i)
		if got, ok := code.Read(w); got != i || !ok {
			t.Error(i, got, ok)
		}
	}
	for _, w := range []uint32{0, math.MaxUint32, 14 << 24, 255 << 24, 128 << 24, 1<<24 + 8<<20, 1<<24 + 1<<16, 1<<24 + 1<<12, 3<<24 + 12, 4<<24 + 1<<20, 8<<24 + 1, 11<<24 + 3<<20, 11<<24 + 1, 12<<24 + 1, 13<<24 + 1<<12} {
		if got, ok := code.Read(w); ok || got != (code.Instr{}) {
			t.Error(w, got)
		}
	}
}

// P14.2: each op told.
func TestText(t *testing.T) {
	for _, x := range []struct {
		i    code.Instr
		want string
	}{
		{code.Instr{Op: code.Li, A: 1, Imm: 5}, "li r1 5"}, {code.Instr{Op: code.Lih, A: 1, Imm: 5}, "lih r1 5"},
		{code.Instr{Op: code.Alu, A: 1, B: 2, C: 3}, "alu add r1 r2 r3"}, {code.Instr{Op: code.Alu, Imm: word.Lt}, "alu lt r0 r0 r0"},
		{code.Instr{Op: code.Jmp, Imm: 5}, "jmp 5"}, {code.Instr{Op: code.Jz, A: 1, Imm: 5}, "jz r1 5"},
		{code.Instr{Op: code.Load, A: 1, B: 2, Imm: 5}, "load r1 r2 5"}, {code.Instr{Op: code.Save, A: 1, B: 2, Imm: 4095}, "save r1 r2 4095"},
		{code.Instr{Op: code.Kmove, A: 1, B: 2}, "kmove k1 k2"}, {code.Instr{Op: code.Knum, A: 15, B: 2}, "knum k15 r2"}, {code.Instr{Op: code.Kget, A: 1, B: 2}, "kget r1 k2"},
		{code.Instr{Op: code.Inv, B: 1, C: 2}, "inv call k1 k2"}, {code.Instr{Op: code.Inv, A: 1, B: 1, C: 2}, "inv return k1 k2"}, {code.Instr{Op: code.Inv, A: 2, B: 1, C: 2}, "inv fork k1 k2"},
		{code.Instr{Op: code.Yield}, "yield"}, {code.Instr{Op: code.Halt}, "halt"},
		{code.Instr{}, ""}, {code.Instr{Op: code.Li, A: 8}, ""}, {code.Instr{Op: code.Alu, Imm: 12}, ""}, {code.Instr{Op: code.Inv, A: 3}, ""},
	} {
		if got := code.Text(x.i); got != x.want {
			t.Errorf("%v: %q, not %q", x.i, got, x.want)
		}
	}
}

// P14.2: each as a word, or the first error around its place.
func TestWords(t *testing.T) {
	got, err := code.Words(code.Instr{Op: code.Halt}, code.Instr{Op: code.Jmp, Imm: 1})
	if !slices.Equal(got, []uint32{13 << 24, 4<<24 + 1}) || err != nil {
		t.Error(got, err)
	}
	if got, err := code.Words(); len(got) != 0 || err != nil {
		t.Error(got, err)
	}
	for _, x := range []struct {
		second code.Instr
		want   error
	}{{code.Instr{}, api.ErrWord}, {code.Instr{Op: code.Halt, Imm: 1}, api.ErrRange}} {
		got, err := code.Words(code.Instr{Op: code.Halt}, x.second, code.Instr{Op: -1})
		var at *api.At
		if len(got) != 0 || !errors.As(err, &at) || at.Pos != 1 || at.Err != x.want {
			t.Error(got, err)
		}
	}
}
