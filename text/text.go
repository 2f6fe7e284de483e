// Package text: what lines are made of: words apart by spaces, and plain decimal numbers.
package text

import (
	"strconv"
	"strings"
)

// maxDigits keeps every number within a word.
const maxDigits = 9

// Words are the words of a line.
func Words(line string) []string {
	return strings.FieldsFunc(line, func(r rune) bool { return r == ' ' })
}

// Silent tells whether a line of these words says nothing.
func Silent(words []string) bool {
	return len(words) == 0 || strings.HasPrefix(words[0], "#")
}

// Number is what a word of 1 to 9 digits says, that has no 0 ahead of others; false: it is none.
func Number(word string) (int, bool) {
	if word == "" || len(word) > maxDigits || word[0] == '0' && word != "0" || !only(word, '0', '9') {
		return 0, false
	}
	n, err := strconv.Atoi(word)
	return n, err == nil
}

// Name tells whether a word has letters a to z, and nothing else.
func Name(word string) bool { return word != "" && only(word, 'a', 'z') }

func only(word string, low, high rune) bool {
	for _, r := range word {
		if r < low || r > high {
			return false
		}
	}
	return true
}
