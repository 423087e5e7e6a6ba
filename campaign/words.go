package campaign

import (
	"slices"
	"strings"

	"cobble/api"
)

// maxDigits is how many digits a number of a string may have.
const maxDigits = 6

func isLetter(c byte) bool {
	return 'a' <= c && c <= 'z' || 'A' <= c && c <= 'Z'
}

func isDigit(c byte) bool {
	return '0' <= c && c <= '9'
}

func isName(s string) bool {
	if len(s) == 0 || len(s) > api.MaxName || !isLetter(s[0]) {
		return false
	}
	for i := range len(s) {
		if !isLetter(s[i]) && !isDigit(s[i]) && s[i] != '-' {
			return false
		}
	}
	return true
}

// isNumber tells whether a word is a number without a sign; leading zeros are
// refused, so that each number is written in one way.
func isNumber(word string) bool {
	if len(word) == 0 || len(word) > maxDigits || len(word) > 1 && word[0] == '0' {
		return false
	}
	for i := range len(word) {
		if !isDigit(word[i]) {
			return false
		}
	}
	return true
}

// numberOf is the number that a word is written for.
func numberOf(word string) int {
	n := 0
	for i := range len(word) {
		n = 10*n + int(word[i]-'0')
	}
	return n
}

// reader reads words from left to right. It stops for good at the first word
// that cannot stand where it is, or that is missing: at is its index then.
type reader struct {
	words   []string
	at      int
	stopped bool
}

func readerOf(s string) *reader {
	return &reader{words: strings.Split(s, " ")}
}

// more tells whether there is a word that may be read.
func (r *reader) more() bool {
	return !r.stopped && r.at < len(r.words)
}

// word reads a word that fits, and is empty if there is none.
func (r *reader) word(fits func(string) bool) string {
	if !r.more() || !fits(r.words[r.at]) {
		r.stopped = true
		return ""
	}
	w := r.words[r.at]
	r.at++
	return w
}

// oneOf reads one of the given words.
func (r *reader) oneOf(words ...string) string {
	return r.word(func(w string) bool { return slices.Contains(words, w) })
}

func (r *reader) number() int {
	return numberOf(r.word(isNumber))
}

// thickness reads a number and its unit, and is in micrometres.
func (r *reader) thickness() int {
	n := r.number()
	if r.oneOf("um", "mm") == "mm" {
		return 1000 * n
	}
	return n
}
