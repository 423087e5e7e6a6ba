package cool

import (
	"strconv"
	"strings"

	"cobble/api"
)

// How many digits a number of a string may have.
const (
	tableDigits = 5
	planDigits  = 4
)

// The separators of a string.
const (
	nextBank   = ";"
	nextRange  = ","
	nextNumber = " "
)

func format(numbers ...int) string {
	var words []string
	for _, n := range numbers {
		words = append(words, strconv.Itoa(n))
	}
	return strings.Join(words, nextNumber)
}

// FormatTable returns the string of a table.
func FormatTable(t api.CoolTable) string {
	parts := []string{format(t.Water, t.Air)}
	for _, b := range t.Banks {
		parts = append(parts, format(b.Rate.Lo, b.Rate.Hi, b.Delay))
	}
	return strings.Join(parts, nextBank)
}

// FormatPlan returns the string of a plan.
func FormatPlan(p api.CoolPlan) string {
	var parts []string
	for _, l := range p.Commands {
		var ranges []string
		for _, r := range l {
			ranges = append(ranges, format(r.Lo, r.Hi))
		}
		parts = append(parts, strings.Join(ranges, nextRange))
	}
	return strings.Join(parts, nextBank)
}

// ParseTable returns the table with a string.
func ParseTable(s string) (api.CoolTable, api.Errno) {
	if len(s) > api.MaxString {
		return api.CoolTable{}, api.ErrLarge
	}
	t, is := readTable(s)
	if !is {
		return api.CoolTable{}, api.ErrSyntax
	}
	if _, e := CheckTable(t); e != api.OK {
		return api.CoolTable{}, e
	}
	return t, api.OK
}

// readTable reads a table, and tells whether the string is one.
func readTable(s string) (api.CoolTable, bool) {
	var t api.CoolTable
	parts := strings.Split(s, nextBank)
	if !read(parts[0], tableDigits, &t.Water, &t.Air) {
		return t, false
	}
	for _, part := range parts[1:] {
		var b api.CoolBank
		if !read(part, tableDigits, &b.Rate.Lo, &b.Rate.Hi, &b.Delay) {
			return t, false
		}
		t.Banks = append(t.Banks, b)
	}
	return t, true
}

// ParsePlan returns the plan with a string.
func ParsePlan(s string) (api.CoolPlan, api.Errno) {
	if len(s) > api.MaxString {
		return api.CoolPlan{}, api.ErrLarge
	}
	var p api.CoolPlan
	for _, part := range strings.Split(s, nextBank) {
		l, is := readCommands(part)
		if !is {
			return api.CoolPlan{}, api.ErrSyntax
		}
		p.Commands = append(p.Commands, l)
	}
	_, wrong := firstWrong(p.Commands, checkCommands)
	if e := firstError(checkCount(len(p.Commands), 1, api.MaxCoolBanks), wrong); e != api.OK {
		return api.CoolPlan{}, e
	}
	return p, api.OK
}

// readCommands reads the commands of one bank, and tells whether the string is some.
func readCommands(s string) ([]api.Range, bool) {
	if s == "" {
		return nil, true
	}
	var l []api.Range
	for _, part := range strings.Split(s, nextRange) {
		var r api.Range
		if !read(part, planDigits, &r.Lo, &r.Hi) {
			return nil, false
		}
		l = append(l, r)
	}
	return l, true
}

// read reads one word into each variable, and tells whether all of them are numbers.
func read(s string, digits int, variables ...*int) bool {
	words := strings.Split(s, nextNumber)
	if len(words) != len(variables) {
		return false
	}
	for i, word := range words {
		n, is := number(word, digits)
		if !is {
			return false
		}
		*variables[i] = n
	}
	return true
}

// number is a number without a sign. What it is written as tells whether it has
// leading zeros, or signs that a number may have elsewhere.
func number(word string, digits int) (int, bool) {
	if len(word) > digits {
		return 0, false
	}
	n, e := strconv.Atoi(word)
	return n, e == nil && n >= 0 && strconv.Itoa(n) == word
}
