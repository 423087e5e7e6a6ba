package gauge

import (
	"strconv"
	"strings"

	"cobble/api"
)

// maxDigits is how many digits a number of a string may have.
const maxDigits = 2

// The separators of a string.
const (
	afterDen  = ";"
	inRange   = " "
	afterPair = ","
	minus     = "-"
)

// FormatLoop returns the string of a loop.
func FormatLoop(l api.GaugeLoop) string {
	var ranges []string
	for _, r := range l.Coefs {
		ranges = append(ranges, strconv.Itoa(r.Lo)+inRange+strconv.Itoa(r.Hi))
	}
	return strconv.Itoa(l.Den) + afterDen + strings.Join(ranges, afterPair)
}

// ParseLoop returns the loop with a string.
func ParseLoop(s string) (api.GaugeLoop, api.Errno) {
	word, ranges, _ := strings.Cut(s, afterDen)
	den, is := readDigits(word)
	if !is {
		return api.GaugeLoop{}, api.ErrSyntax
	}
	l := api.GaugeLoop{Den: den}
	for _, word := range strings.Split(ranges, afterPair) {
		r, is := readRange(word)
		if !is {
			return api.GaugeLoop{}, api.ErrSyntax
		}
		l.Coefs = append(l.Coefs, r)
	}
	if e := CheckLoop(l); e != api.OK {
		return api.GaugeLoop{}, e
	}
	return l, api.OK
}

// readRange reads both ends of a range, and tells whether they are there.
func readRange(s string) (api.Range, bool) {
	first, second, _ := strings.Cut(s, inRange)
	lo, isFirst := readEnd(first)
	hi, isSecond := readEnd(second)
	return api.Range{Lo: lo, Hi: hi}, isFirst && isSecond
}

// readEnd reads a number that may be below 0.
func readEnd(word string) (int, bool) {
	digits, isBelow := strings.CutPrefix(word, minus)
	n, is := readDigits(digits)
	if isBelow {
		return -n, is && n > 0
	}
	return n, is
}

// readDigits reads a number without a sign. What it is written as tells whether it
// has leading zeros, or signs that a number may have elsewhere.
func readDigits(word string) (int, bool) {
	if len(word) > maxDigits {
		return 0, false
	}
	n, e := strconv.Atoi(word)
	return n, e == nil && n >= 0 && strconv.Itoa(n) == word
}
