package model

import (
	"strconv"
	"strings"

	"cobble/api"
)

// maxDigits is how many digits a number of a string may have.
const maxDigits = 7

// The separators of numbers in a string.
const (
	blank  = " "
	slash  = "/"
	atSign = "@"
)

// write is numbers with a separator between them.
func write(separator string, numbers ...int) string {
	var words []string
	for _, n := range numbers {
		words = append(words, strconv.Itoa(n))
	}
	return strings.Join(words, separator)
}

// read sets numbers to what a string says, and tells whether it is their string.
func read(s, separator string, numbers ...*int) bool {
	words := strings.Split(s, separator)
	if len(words) != len(numbers) {
		return false
	}
	for i, word := range words {
		if !isNumber(word) {
			return false
		}
		*numbers[i], _ = strconv.Atoi(word)
	}
	return true
}

// FormatCorrection returns the string of a correction.
func FormatCorrection(c api.ModelCorrection) string {
	return write(blank, c.Version, c.At)
}

// ParseCorrection returns the correction with a string.
func ParseCorrection(s string) (api.ModelCorrection, api.Errno) {
	var c api.ModelCorrection
	if !read(s, blank, &c.Version, &c.At) {
		return api.ModelCorrection{}, api.ErrSyntax
	}
	e := firstError(limit(0, api.MaxModelVersion)(c.Version), limit(0, api.MaxModelGain)(c.At))
	if e != api.OK {
		return api.ModelCorrection{}, e
	}
	return c, api.OK
}

// FormatCoil returns the string of a coil.
func FormatCoil(c api.ModelCoil) string {
	words := []string{c.Name}
	for _, x := range c.Readings {
		words = append(words, write(atSign, x.X, x.Force))
	}
	return strings.Join(words, blank)
}

// ParseCoil returns the coil with a string.
func ParseCoil(s string) (api.ModelCoil, api.Errno) {
	words := strings.Split(s, blank)
	c := api.ModelCoil{Name: words[0]}
	if c.Name == "" {
		return api.ModelCoil{}, api.ErrSyntax
	}
	for _, word := range words[1:] {
		var x api.ModelReading
		if !read(word, atSign, &x.X, &x.Force) {
			return api.ModelCoil{}, api.ErrSyntax
		}
		c.Readings = append(c.Readings, x)
	}
	if _, e := checkCoil(c); e != api.OK {
		return api.ModelCoil{}, e
	}
	return c, api.OK
}

// FormatRules returns the string of rules.
func FormatRules(r api.ModelRules) string {
	words := []string{
		write(slash, r.Lowest.Num, r.Lowest.Den),
		write(slash, r.Step.Num, r.Step.Den),
		write(blank, r.Steps),
	}
	for _, k := range r.Table {
		words = append(words, write(atSign, k.X, k.Value))
	}
	return strings.Join(words, blank)
}

// headWords is how many words stand before the knots in the string of rules.
const headWords = 3

// ParseRules returns the rules with a string.
func ParseRules(s string) (api.ModelRules, api.Errno) {
	words := strings.Split(s, blank)
	r, is := readHead(words)
	if !is {
		return api.ModelRules{}, api.ErrSyntax
	}
	for _, word := range words[headWords:] {
		var k api.ModelKnot
		if !read(word, atSign, &k.X, &k.Value) {
			return api.ModelRules{}, api.ErrSyntax
		}
		r.Table = append(r.Table, k)
	}
	if _, e := CheckRules(r); e != api.OK {
		return api.ModelRules{}, e
	}
	return r, api.OK
}

// readHead reads the words before the knots, and tells whether there are all of
// them.
func readHead(words []string) (api.ModelRules, bool) {
	var r api.ModelRules
	is := len(words) >= headWords &&
		read(words[0], slash, &r.Lowest.Num, &r.Lowest.Den) &&
		read(words[1], slash, &r.Step.Num, &r.Step.Den) &&
		read(words[2], blank, &r.Steps)
	return r, is
}

// isNumber tells whether a word is a number without a sign; leading zeros are
// refused, so that each number is written in one way.
func isNumber(word string) bool {
	if len(word) == 0 || len(word) > maxDigits || len(word) > 1 && word[0] == '0' {
		return false
	}
	for i := range len(word) {
		if !isDigit(word[i]) {
			return false
		}
	}
	return true
}
