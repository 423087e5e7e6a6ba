package pass

import (
	"strconv"
	"strings"

	"cobble/api"
)

// maxDigits is how many digits a number of a string may have.
const maxDigits = 13

// separator stands before each stand in the string of rules.
const separator = " ; "

// ruleNumbers are the numbers that stand before the stands in the string of rules.
func ruleNumbers(r *api.PassRules) [10]*int {
	return [10]*int{
		&r.Width, &r.Start, &r.Finish, &r.Heat.Lo, &r.Heat.Hi, &r.Coldest,
		&r.Stress.Lo, &r.Stress.Hi, &r.Friction.Lo, &r.Friction.Hi,
	}
}

func standNumbers(s *api.PassStand) [5]*int {
	return [5]*int{&s.Radius, &s.Force, &s.Torque, &s.Loss.Lo, &s.Loss.Hi}
}

func format(numbers ...*int) string {
	var words []string
	for _, n := range numbers {
		words = append(words, strconv.Itoa(*n))
	}
	return strings.Join(words, " ")
}

// read sets numbers to what a string says, and tells whether it is their string.
func read(s string, numbers ...*int) bool {
	words := strings.Split(s, " ")
	if len(words) != len(numbers) || !areNumbers(words) {
		return false
	}
	for i, word := range words {
		*numbers[i] = numberOf(word)
	}
	return true
}

// FormatSchedule returns the string of a schedule.
func FormatSchedule(s api.PassSchedule) string {
	words := []string{s.Name}
	for _, h := range s.Thicknesses {
		words = append(words, strconv.Itoa(h))
	}
	return strings.Join(words, " ")
}

// ParseSchedule returns the schedule with a string.
func ParseSchedule(s string) (api.PassSchedule, api.Errno) {
	words := strings.Split(s, " ")
	name, numbers := words[0], words[1:]
	switch {
	case name == "", !areNumbers(numbers):
		return api.PassSchedule{}, api.ErrSyntax
	case !isName(name):
		return api.PassSchedule{}, api.ErrName
	case len(numbers) > api.MaxPassStands:
		return api.PassSchedule{}, api.ErrLarge
	}
	x := api.PassSchedule{Name: name}
	for _, word := range numbers {
		h := numberOf(word)
		if e := checkThickness(h); e != api.OK {
			return api.PassSchedule{}, e
		}
		x.Thicknesses = append(x.Thicknesses, h)
	}
	return x, api.OK
}

// FormatRules returns the string of rules.
func FormatRules(r api.PassRules) string {
	numbers := ruleNumbers(&r)
	l := []string{format(numbers[:]...)}
	for _, s := range r.Stands {
		numbers := standNumbers(&s)
		l = append(l, format(numbers[:]...))
	}
	return strings.Join(l, separator)
}

// ParseRules returns the rules with a string.
func ParseRules(s string) (api.PassRules, api.Errno) {
	var r api.PassRules
	l := strings.Split(s, separator)
	numbers := ruleNumbers(&r)
	if !read(l[0], numbers[:]...) {
		return api.PassRules{}, api.ErrSyntax
	}
	for _, part := range l[1:] {
		var stand api.PassStand
		numbers := standNumbers(&stand)
		if !read(part, numbers[:]...) {
			return api.PassRules{}, api.ErrSyntax
		}
		r.Stands = append(r.Stands, stand)
	}
	if _, e := CheckRules(r); e != api.OK {
		return api.PassRules{}, e
	}
	return r, api.OK
}

func isLetter(c byte) bool {
	return 'a' <= c && c <= 'z' || 'A' <= c && c <= 'Z'
}

func isDigit(c byte) bool {
	return '0' <= c && c <= '9'
}

func isName(s string) bool {
	if len(s) == 0 || len(s) > api.MaxName || !isLetter(s[0]) {
		return false
	}
	for i := range len(s) {
		if !isLetter(s[i]) && !isDigit(s[i]) && s[i] != '-' {
			return false
		}
	}
	return true
}

// areNumbers tells whether all words are numbers without a sign; leading zeros are
// refused, so that each number is written in one way.
func areNumbers(words []string) bool {
	for _, word := range words {
		if len(word) == 0 || len(word) > maxDigits || len(word) > 1 && word[0] == '0' {
			return false
		}
		for i := range len(word) {
			if !isDigit(word[i]) {
				return false
			}
		}
	}
	return true
}

// numberOf is the number that a word is written for.
func numberOf(word string) int {
	n := 0
	for i := range len(word) {
		n = 10*n + int(word[i]-'0')
	}
	return n
}
