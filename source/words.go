package source

import (
	"unicode/utf8"

	"bounded/api"
	"bounded/refusal"
)

// wordsOf goes on behind a `;` too: what is left out must be UTF-8 as well.
func wordsOf(text string, line int) []string {
	var words []string
	begin, leftOut := -1, false
	for at, char := range text {
		if char == utf8.RuneError && isBroken(text[at:]) {
			refusal.Raise(api.ErrText, line)
		}
		leftOut = leftOut || char == ';'
		inWord := !leftOut && char != ' ' && char != '\t'
		if inWord && begin < 0 {
			begin = at
		}
		if !inWord && begin >= 0 {
			words = append(words, text[begin:at])
			begin = -1
		}
	}
	if begin >= 0 {
		words = append(words, text[begin:])
	}
	return words
}

// isBroken tells bytes that are no UTF-8 from a U+FFFD that was written as such, which takes three bytes.
func isBroken(text string) bool {
	_, size := utf8.DecodeRuneInString(text)
	return size == 1
}
