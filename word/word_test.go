package word_test

import (
	"math"
	"testing"

	"turnkey/word"
)

const top = math.MaxUint32

// P2.1: each op, and where words go round.
func TestDo(t *testing.T) {
	for _, x := range []struct {
		op         int
		a, b, want uint32
	}{
		{word.Add, 2, 3, 5}, {word.Add, top, 2, 1},
		{word.Sub, 5, 3, 2}, {word.Sub, 0, 1, top},
		{word.Mul, 6, 7, 42}, {word.Mul, 1 << 31, 2, 0}, {word.Mul, top, top, 1},
		{word.Div, 17, 5, 3}, {word.Div, top, 1, top}, {word.Div, 17, 0, 0},
		{word.Mod, 17, 5, 2}, {word.Mod, 17, 0, 0}, {word.Mod, 4, 9, 4},
		{word.And, 12, 10, 8}, {word.Or, 12, 10, 14}, {word.Xor, 12, 10, 6},
		{word.Shl, 3, 4, 48}, {word.Shl, 3, 31, 1 << 31}, {word.Shl, 3, 32, 0}, {word.Shl, 3, top, 0},
		{word.Shr, 48, 4, 3}, {word.Shr, top, 31, 1}, {word.Shr, top, 32, 0}, {word.Shr, top, top, 0},
		{word.Lt, 1, 2, 1}, {word.Lt, 2, 2, 0}, {word.Lt, top, 0, 0}, {word.Lt, 0, top, 1},
		{word.Eq, 7, 7, 1}, {word.Eq, 7, 8, 0},
	} {
		if w, ok := word.Do(x.op, x.a, x.b); !ok || w != x.want {
			t.Errorf("Do(%s, %d, %d) = %d, %v, not %d", word.Name(x.op), x.a, x.b, w, ok, x.want)
		}
	}
}

// P2.1: no such op.
func TestNoSuchOp(t *testing.T) {
	for _, op := range []int{-1, 12, math.MaxInt, math.MinInt} {
		if w, ok := word.Do(op, 3, 4); ok || w != 0 {
			t.Error(op, w, ok)
		}
		if word.Name(op) != "" {
			t.Error(op, word.Name(op))
		}
	}
}

// P2.1: all added, round and round.
func TestSum(t *testing.T) {
	if word.Sum() != 0 || word.Sum(1, 2, 3) != 6 || word.Sum(top, top, 3) != 1 {
		t.Error(word.Sum(), word.Sum(1, 2, 3), word.Sum(top, top, 3))
	}
}

// P2.1: the names, in the order of the numbers.
func TestName(t *testing.T) {
	for op, want := range []string{"add", "sub", "mul", "div", "mod", "and", "or", "xor", "shl", "shr", "lt", "eq"} {
		if word.Name(op) != want {
			t.Error(op, word.Name(op), want)
		}
	}
}
