package trace

import (
	"strconv"
	"strings"

	"cobble/api"
)

// maxDigits is how many digits a number of a string may have.
const maxDigits = 7

// The words that steps begin with.
const (
	passWord = "p"
	cutWord  = "c"
)

// The separators of a string.
const (
	nextPart = ";"
	nextItem = ","
	nextWord = " "
	times    = "*"
	slash    = "/"
)

func write(separator string, numbers ...int) string {
	var words []string
	for _, n := range numbers {
		words = append(words, strconv.Itoa(n))
	}
	return strings.Join(words, separator)
}

func writeFrac(f api.Frac) string {
	if f.Den == 1 {
		return write(slash, f.Num)
	}
	return write(slash, f.Num, f.Den)
}

// ReportOf returns the report of a course with readings.
func ReportOf(c api.TraceCourse, r []api.TraceReading) (string, api.Errno) {
	x, e := validCourse(c)
	if e != api.OK {
		return "", e
	}
	if e := x.checkReadings(r); e != api.OK {
		return "", e
	}
	length, e := x.coil().length().frac()
	parts := []string{c.Slab + nextWord + writeFrac(length)}
	for _, reading := range r {
		part, wrong := x.report(reading)
		e = firstError(e, wrong)
		parts = append(parts, part)
	}
	if e != api.OK {
		return "", e
	}
	return strings.Join(parts, nextPart), api.OK
}

// report is the part of a report about one reading.
func (c course) report(r api.TraceReading) (string, api.Errno) {
	slab, before := c.written(r, 0)
	coil, after := c.written(r, len(c.Steps))
	present := "no"
	if r.Present {
		present = "yes"
	}
	return strings.Join([]string{write(nextWord, r.Step, r.At), slab, coil, present}, nextWord), firstError(before, after)
}

// written is the position of the point that was read, on the strip after a number of
// steps, as it is written.
func (c course) written(r api.TraceReading, steps int) (string, api.Errno) {
	place, is := c.placeOf(c.read(r), steps)
	if !is {
		return "-", api.OK
	}
	f, e := place.frac()
	return writeFrac(f), e
}

// FormatCourse returns the string of a course.
func FormatCourse(c api.TraceCourse) string {
	var sections []string
	for i := range max(len(c.Lengths), len(c.Areas)) {
		sections = append(sections, write(times, itemAt(c.Lengths, i), itemAt(c.Areas, i)))
	}
	parts := []string{c.Slab, strings.Join(sections, nextItem)}
	for _, x := range c.Steps {
		parts = append(parts, formatStep(x))
	}
	return strings.Join(parts, nextPart)
}

// itemAt is a number, or 0 if it is missing.
func itemAt(l []int, i int) int {
	if i < len(l) {
		return l[i]
	}
	return 0
}

func formatStep(x api.TraceStep) string {
	if x.Kind == api.TracePass {
		return passWord + nextWord + write(nextItem, x.Areas...)
	}
	return cutWord + nextWord + write(nextWord, x.From, x.To)
}

// ParseCourse returns the course with a string.
func ParseCourse(s string) (api.TraceCourse, api.Errno) {
	if len(s) > api.MaxString {
		return api.TraceCourse{}, api.ErrLarge
	}
	c, is := readCourse(s)
	if !is {
		return api.TraceCourse{}, api.ErrSyntax
	}
	if _, e := CheckCourse(c); e != api.OK {
		return api.TraceCourse{}, e
	}
	return c, api.OK
}

// readCourse reads a course, and tells whether the string is one.
func readCourse(s string) (api.TraceCourse, bool) {
	parts := strings.Split(s, nextPart)
	c := api.TraceCourse{Slab: parts[0]}
	if len(parts) < 2 {
		return c, false
	}
	for _, section := range strings.Split(parts[1], nextItem) {
		numbers, is := readNumbers(section, times)
		if !is || len(numbers) != 2 {
			return c, false
		}
		c.Lengths = append(c.Lengths, numbers[0])
		c.Areas = append(c.Areas, numbers[1])
	}
	for _, part := range parts[2:] {
		x, is := readStep(part)
		if !is {
			return c, false
		}
		c.Steps = append(c.Steps, x)
	}
	return c, true
}

// readStep reads a step, and tells whether the string is one.
func readStep(s string) (api.TraceStep, bool) {
	word, rest, is := strings.Cut(s, nextWord)
	switch {
	case is && word == passWord:
		areas, is := readNumbers(rest, nextItem)
		return api.TraceStep{Kind: api.TracePass, Areas: areas}, is
	case is && word == cutWord:
		ends, is := readNumbers(rest, nextWord)
		if !is || len(ends) != 2 {
			return api.TraceStep{}, false
		}
		return api.TraceStep{Kind: api.TraceCut, From: ends[0], To: ends[1]}, true
	}
	return api.TraceStep{}, false
}

// readNumbers reads numbers with a separator between them, and tells whether the string
// is at least one.
func readNumbers(s, separator string) ([]int, bool) {
	var numbers []int
	for _, word := range strings.Split(s, separator) {
		n, is := number(word)
		if !is {
			return nil, false
		}
		numbers = append(numbers, n)
	}
	return numbers, true
}

// number is a number without a sign. What it is written as tells whether it has leading
// zeros, or signs that a number may have elsewhere.
func number(word string) (int, bool) {
	if len(word) > maxDigits {
		return 0, false
	}
	n, e := strconv.Atoi(word)
	return n, e == nil && n >= 0 && strconv.Itoa(n) == word
}
