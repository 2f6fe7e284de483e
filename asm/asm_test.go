package asm_test

import (
	"errors"
	"math"
	"math/rand"
	"slices"
	"strings"
	"testing"

	"turnkey/api"
	"turnkey/asm"
	"turnkey/code"
	"turnkey/word"
)

// P15.1: each op, as code.Text tells it.
func TestLine(t *testing.T) {
	for _, x := range []struct {
		s    string
		want code.Instr
	}{
		{"li r1 5", code.Instr{Op: code.Li, A: 1, Imm: 5}}, {"  lih   r7  4095 ", code.Instr{Op: code.Lih, A: 7, Imm: 4095}},
		{"alu add r1 r2 r3", code.Instr{Op: code.Alu, A: 1, B: 2, C: 3}}, {"alu eq r0 r0 r7", code.Instr{Op: code.Alu, C: 7, Imm: word.Eq}},
		{"jmp 0", code.Instr{Op: code.Jmp}}, {"jz r1 5", code.Instr{Op: code.Jz, A: 1, Imm: 5}},
		{"load r1 r2 5", code.Instr{Op: code.Load, A: 1, B: 2, Imm: 5}}, {"save r1 r2 5", code.Instr{Op: code.Save, A: 1, B: 2, Imm: 5}},
		{"kmove k1 k15", code.Instr{Op: code.Kmove, A: 1, B: 15}}, {"knum k1 r2", code.Instr{Op: code.Knum, A: 1, B: 2}}, {"kget r1 k2", code.Instr{Op: code.Kget, A: 1, B: 2}},
		{"inv call k1 k2", code.Instr{Op: code.Inv, B: 1, C: 2}}, {"inv return k1 k2", code.Instr{Op: code.Inv, A: 1, B: 1, C: 2}}, {"inv fork k1 k2", code.Instr{Op: code.Inv, A: 2, B: 1, C: 2}},
		{"yield", code.Instr{Op: code.Yield}}, {"halt", code.Instr{Op: code.Halt}},
	} {
		got, err := asm.Line(x.s)
		if got != x.want || err != nil {
			t.Error(x.s, got, err)
		}
		if again := code.Text(got); again != strings.Join(strings.Fields(x.s), " ") {
			t.Error(x.s, again)
		}
	}
}

// P15.1: all names of ops of word.
func TestLineOps(t *testing.T) {
	for op := range 12 {
		if got, err := asm.Line("alu " + word.Name(op) + " r1 r2 r3"); got.Imm != op || err != nil {
			t.Error(op, got, err)
		}
	}
}

// P15.1: the errors, words ahead of numbers, numbers ahead of what is valid.
func TestLineErrors(t *testing.T) {
	for s, want := range map[string]error{
		"": api.ErrWord, "   ": api.ErrWord, "foo": api.ErrWord, "LI r1 5": api.ErrWord, "word 5": api.ErrWord, "# li r1 5": api.ErrWord, "a:": api.ErrWord, "li\tr1\t5": api.ErrWord,
		"li": api.ErrWord, "li r1": api.ErrWord, "li r1 5 6": api.ErrWord, "li x": api.ErrWord, "halt 1": api.ErrWord, "yield x": api.ErrWord, "jmp": api.ErrWord,
		"alu": api.ErrWord, "alu foo r1 r2 r3": api.ErrWord, "alu foo x r2 r3": api.ErrWord, "alu add r1 r2": api.ErrWord, "alu r1 r2 r3": api.ErrWord, "alu add x y": api.ErrWord,
		"inv": api.ErrWord, "inv foo k1 k2": api.ErrWord, "inv call k1": api.ErrWord, "inv call x y z": api.ErrWord, "inv Call k1 k2": api.ErrWord,
		"li 1 5": api.ErrNumber, "li r 5": api.ErrNumber, "li k1 5": api.ErrNumber, "li r01 5": api.ErrNumber, "li R1 5": api.ErrNumber, "li r-1 5": api.ErrNumber, "li r1000000000 5": api.ErrNumber,
		"li r1 05": api.ErrNumber, "li r1 +5": api.ErrNumber, "li r1 -5": api.ErrNumber, "li r1 x": api.ErrNumber, "li r1 1000000000": api.ErrNumber, "li r1 5;": api.ErrNumber,
		"kmove r1 k2": api.ErrNumber, "kget k1 r2": api.ErrNumber, "jmp a": api.ErrNumber, "jz r1 a": api.ErrNumber, "inv call k1 r2": api.ErrNumber,
		"li r9 x": api.ErrNumber, "load r8 r8 00": api.ErrNumber,
		"li r8 5": api.ErrRange, "li r1 4096": api.ErrRange, "li r999999999 5": api.ErrRange, "jmp 999999999": api.ErrRange, "kmove k16 k1": api.ErrRange, "knum k1 r8": api.ErrRange, "alu add r1 r2 r8": api.ErrRange,
	} {
		if got, err := asm.Line(s); err != want || got != (code.Instr{}) {
			t.Errorf("%q: %v, %v, not %v", s, got, err, want)
		}
	}
}

func words(t *testing.T, l ...string) []uint32 {
	t.Helper()
	w, err := asm.Text(l...)
	if err != nil {
		t.Fatal(l, err)
	}
	return w
}

func one(t *testing.T, s string) uint32 {
	t.Helper()
	return words(t, s)[0]
}

// P15.2: what says nothing, names, words and jumps to names, ahead and back.
func TestText(t *testing.T) {
	got := words(t, "", "  # a remark", "start:", "#x", "  li r1 5", "jz r1 over ", " jmp start", "jmp 7", "  over:", "word 999999999", "end:", "jmp end")
	want := []uint32{one(t, "li r1 5"), one(t, "jz r1 4"), one(t, "jmp 0"), one(t, "jmp 7"), 999999999, one(t, "jmp 5")}
	if !slices.Equal(got, want) {
		t.Error(got, want)
	}
	if got := words(t, "a:", "jmp a"); !slices.Equal(got, []uint32{4 << 24}) {
		t.Error(got)
	}
	if got := words(t, "jmp b", "a:", "b:"); !slices.Equal(got, []uint32{4<<24 + 1}) {
		t.Error(got)
	}
	if got := words(t); len(got) != 0 {
		t.Error(got)
	}
	if got := words(t, "word:", "word 0", "jmp word", "r:", "jz r1 r"); !slices.Equal(got, []uint32{0, 4 << 24, one(t, "jz r1 2")}) {
		t.Error(got)
	}
}

// P15.2: the errors, around the line's place.
func TestTextErrors(t *testing.T) {
	for i, x := range []struct {
		l    []string
		pos  int
		want error
	}{
		{[]string{"halt", "", "foo"}, 2, api.ErrWord},
		{[]string{"li r1 x"}, 0, api.ErrNumber}, {[]string{"halt", "li r8 1"}, 1, api.ErrRange},
		{[]string{"word"}, 0, api.ErrWord}, {[]string{"word 1 2"}, 0, api.ErrWord}, {[]string{"word x"}, 0, api.ErrNumber}, {[]string{"word 01"}, 0, api.ErrNumber}, {[]string{"word 1000000000"}, 0, api.ErrNumber},
		{[]string{"jmp a"}, 0, api.ErrNone}, {[]string{"a:", "halt", "jz r1 b"}, 2, api.ErrNone},
		{[]string{"a:", "halt", "a:"}, 2, api.ErrMany}, {[]string{"a:", "foo", "a:"}, 1, api.ErrWord}, {[]string{"jmp b", "a:", "a:"}, 0, api.ErrNone}, {[]string{"a:", "a:", "jmp b"}, 1, api.ErrMany},
		{[]string{"A:"}, 0, api.ErrWord}, {[]string{"a1:"}, 0, api.ErrWord}, {[]string{":"}, 0, api.ErrWord}, {[]string{"a: halt"}, 0, api.ErrWord}, {[]string{"a :"}, 0, api.ErrWord}, {[]string{"a:", "jmp a 1"}, 1, api.ErrWord},
		{[]string{"a:", "jmp a:"}, 1, api.ErrNumber}, {[]string{"a:", "jmp A"}, 1, api.ErrNumber}, {[]string{"a:", "jz a a"}, 1, api.ErrNumber}, {[]string{"a:", "li r1 a"}, 1, api.ErrNumber}, {[]string{"a:", "load r1 r2 a"}, 1, api.ErrNumber},
		{[]string{"a:", "jz r8 a"}, 1, api.ErrRange}, {[]string{"jz x b"}, 0, api.ErrNumber},
	} {
		w, err := asm.Text(x.l...)
		var at *api.At
		if len(w) != 0 || !errors.As(err, &at) || at.Pos != x.pos || at.Err != x.want {
			t.Error(i, x.l, w, err)
		}
	}
}

// P15.2: a name's place may be 4095, and no more.
func TestTextFarName(t *testing.T) {
	l := slices.Repeat([]string{"halt"}, 4095)
	l[0] = "jmp far"
	if w := words(t, append(slices.Clone(l), "far:", "halt")...); w[0] != 4<<24+4095 {
		t.Error(w[0])
	}
	_, err := asm.Text(append(l, "halt", "far:")...)
	var at *api.At
	if !errors.As(err, &at) || at.Pos != 0 || at.Err != api.ErrRange {
		t.Error(err)
	}
}

// P15.2: each word told, as an instruction or as a word.
func TestShow(t *testing.T) {
	got := asm.Show(0, 13<<24, math.MaxUint32, 1<<24+1<<20+5, 14<<24)
	if want := []string{"word 0", "halt", "word 4294967295", "li r1 5", "word 234881024"}; !slices.Equal(got, want) {
		t.Error(got)
	}
	if got := asm.Show(); len(got) != 0 {
		t.Error(got)
	}
}

// P15.2: Text of Show is what it was.
func TestTextOfShow(t *testing.T) {
	r := rand.New(rand.NewSource(1))
	var w []uint32
	for range 20000 {
		x := r.Uint32() >> (r.Intn(8))
		if _, ok := code.Read(x); ok || x < 1000000000 {
			w = append(w, x)
		}
		i := code.Instr{Op: r.Intn(14), A: r.Intn(16), B: r.Intn(16), C: r.Intn(16) * r.Intn(2), Imm: r.Intn(4096) * r.Intn(2)}
		if x, err := code.Word(i); err == nil {
			w = append(w, x)
		}
	}
	if got := words(t, asm.Show(w...)...); !slices.Equal(got, w) {
		t.Error("not what it was")
	}
}
