package roll

import (
	"strconv"
	"strings"

	"cobble/api"
)

// maxDigits is how many digits a number of a string may have.
const maxDigits = 4

// blank separates the words of a string.
const blank = " "

// words is how many words the string of a roll has.
const words = 3

// FormatDrum returns the string of a roll.
func FormatDrum(d api.RollDrum) string {
	return strings.Join([]string{d.Name, strconv.Itoa(d.Period), strconv.Itoa(d.Offset)}, blank)
}

// ParseDrum returns the roll with a string.
func ParseDrum(s string) (api.RollDrum, api.Errno) {
	l := strings.Split(s, blank)
	if len(l) != words || l[0] == "" {
		return api.RollDrum{}, api.ErrSyntax
	}
	period, isPeriod := readNumber(l[1])
	offset, isOffset := readNumber(l[2])
	if !isPeriod || !isOffset {
		return api.RollDrum{}, api.ErrSyntax
	}
	d := api.RollDrum{Name: l[0], Period: period, Offset: offset}
	if e := CheckDrum(d); e != api.OK {
		return api.RollDrum{}, e
	}
	return d, api.OK
}

// readNumber reads a number without a sign, and tells whether the word is one. What
// it is written as tells whether it has leading zeros, or signs that a number may
// have elsewhere.
func readNumber(word string) (int, bool) {
	if len(word) > maxDigits {
		return 0, false
	}
	n, e := strconv.Atoi(word)
	return n, e == nil && n >= 0 && strconv.Itoa(n) == word
}

func isLetter(c byte) bool {
	return 'a' <= c && c <= 'z' || 'A' <= c && c <= 'Z'
}

func isDigit(c byte) bool {
	return '0' <= c && c <= '9'
}

func checkName(s string) api.Errno {
	if len(s) == 0 || len(s) > api.MaxName || !isLetter(s[0]) {
		return api.ErrName
	}
	for i := range len(s) {
		if !isLetter(s[i]) && !isDigit(s[i]) && s[i] != '-' {
			return api.ErrName
		}
	}
	return api.OK
}
