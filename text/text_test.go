package text_test

import (
	"slices"
	"testing"

	"turnkey/text"
)

func TestWords(t *testing.T) {
	for _, x := range []struct {
		line string
		want []string
	}{
		{"", nil}, {"   ", nil}, {"a", []string{"a"}}, {"  a  bc d ", []string{"a", "bc", "d"}},
		{"a\tb c\n", []string{"a\tb", "c\n"}}, {"\xff \u00e4", []string{"\xff", "\u00e4"}},
	} {
		if got := text.Words(x.line); !slices.Equal(got, x.want) {
			t.Errorf("%q: %q", x.line, got)
		}
	}
}

func TestSilent(t *testing.T) {
	if !text.Silent(nil) || !text.Silent([]string{"#a", "b"}) || text.Silent([]string{"a", "#"}) {
		t.Error("Silent")
	}
}

func TestNumber(t *testing.T) {
	for word, want := range map[string]int{"0": 0, "7": 7, "10": 10, "999999999": 999999999} {
		if n, ok := text.Number(word); n != want || !ok {
			t.Error(word, n, ok)
		}
	}
	for _, word := range []string{"", "00", "01", "-1", "+1", "1000000000", "1a", "a", " 1", "1 ", "0x1", "1_0", "\u0661", "\xff"} {
		if n, ok := text.Number(word); n != 0 || ok {
			t.Error(word, n, ok)
		}
	}
}

func TestName(t *testing.T) {
	for _, word := range []string{"a", "z", "abc"} {
		if !text.Name(word) {
			t.Error(word)
		}
	}
	for _, word := range []string{"", "A", "a1", "a:", "a b", "\u00e4", "`", "{"} {
		if text.Name(word) {
			t.Error(word)
		}
	}
}
