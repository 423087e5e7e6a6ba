package flat

import (
	"strconv"
	"strings"

	"cobble/api"
)

// maxDigits is how many digits a number of a string may have.
const maxDigits = 6

// The signs of a string.
const (
	blank       = " "
	beforeActor = ";"
	minus       = "-"
)

func format(numbers []int) string {
	return strings.Join(each(numbers, strconv.Itoa), blank)
}

// FormatProfile returns the string of a profile.
func FormatProfile(p []int) string {
	return format(p)
}

// FormatRules returns the string of rules.
func FormatRules(r api.FlatRules) string {
	parts := []string{format(r.Target)}
	for _, a := range r.Actors {
		ends := []int{a.Settings.Lo, a.Settings.Hi}
		parts = append(parts, format(append(ends, a.Effects...)))
	}
	return strings.Join(parts, beforeActor)
}

// ParseProfile returns the profile with a string.
func ParseProfile(s string) ([]int, api.Errno) {
	if len(s) > api.MaxString {
		return nil, api.ErrLarge
	}
	p, is := read(s, digits)
	if !is {
		return nil, api.ErrSyntax
	}
	if e := CheckProfile(p); e != api.OK {
		return nil, e
	}
	return p, api.OK
}

// ParseRules returns the rules with a string.
func ParseRules(s string) (api.FlatRules, api.Errno) {
	if len(s) > api.MaxString {
		return api.FlatRules{}, api.ErrLarge
	}
	parts := strings.Split(s, beforeActor)
	target, is := read(parts[0], number)
	if !is {
		return api.FlatRules{}, api.ErrSyntax
	}
	r := api.FlatRules{Target: target}
	for _, part := range parts[1:] {
		a, is := readActor(part)
		if !is {
			return api.FlatRules{}, api.ErrSyntax
		}
		r.Actors = append(r.Actors, a)
	}
	if _, e := CheckRules(r); e != api.OK {
		return api.FlatRules{}, e
	}
	return r, api.OK
}

// readActor reads an actuator, and tells whether the string is one.
func readActor(s string) (api.FlatActor, bool) {
	l, is := read(s, number)
	if !is || len(l) < 2 {
		return api.FlatActor{}, false
	}
	return api.FlatActor{Settings: api.Range{Lo: l[0], Hi: l[1]}, Effects: l[2:]}, true
}

// read reads numbers of one kind, and tells whether all words are such numbers.
func read(s string, kind func(word string) (int, bool)) ([]int, bool) {
	var l []int
	for _, word := range strings.Split(s, blank) {
		n, is := kind(word)
		if !is {
			return nil, false
		}
		l = append(l, n)
	}
	return l, true
}

// number is a number that may be below 0.
func number(word string) (int, bool) {
	rest, isBelow := strings.CutPrefix(word, minus)
	n, is := digits(rest)
	if isBelow {
		return -n, is && n > 0
	}
	return n, is
}

// digits is a number without a sign. What it is written as tells whether it has
// leading zeros, or signs that a number may have elsewhere.
func digits(word string) (int, bool) {
	if len(word) > maxDigits {
		return 0, false
	}
	n, e := strconv.Atoi(word)
	return n, e == nil && n >= 0 && strconv.Itoa(n) == word
}
