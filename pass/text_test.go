package pass_test

import (
	"math"
	"math/rand"
	"slices"
	"strings"
	"testing"

	"cobble/api"
	"cobble/pass"
)

func TestP3_8FormatSchedule(t *testing.T) {
	for want, s := range map[string]api.PassSchedule{
		"best 80 60": exampleSchedule(), "": {}, "a": {Name: "a"}, " 1": {Thicknesses: []int{1}}, "a b -5 0 1001": {Name: "a b", Thicknesses: []int{-5, 0, 1001}},
		"x -9223372036854775808 9223372036854775807": {Name: "x", Thicknesses: []int{math.MinInt, math.MaxInt}}, "y 1 1 1 1 1 1 1": {Name: "y", Thicknesses: slices.Repeat([]int{1}, 7)},
	} {
		if got := pass.FormatSchedule(s); got != want {
			t.Errorf("%q in place of %q", got, want)
		}
	}
}

func TestP3_8FormatRules(t *testing.T) {
	odd := api.PassRules{Width: 1, Start: -2, Finish: 3, Heat: ends(4, 5), Coldest: 6, Stress: ends(7, 8), Friction: ends(9, 10), Stands: []api.PassStand{stand(11, 12, 13, 14, -15)}}
	for want, r := range map[string]api.PassRules{
		"10 100 60 10000 10000 9000 2 3 7 8 ; 300 20000 400000 0 100 ; 300 20000 400000 0 100": exampleRules(),
		"1 -2 3 4 5 6 7 8 9 10 ; 11 12 13 14 -15":                                              odd,
		"0 0 0 0 0 0 0 0 0 0": {},
		"0 0 0 0 0 0 0 0 0 -9223372036854775808 ; 9223372036854775807 0 0 0 0": {Friction: ends(0, math.MinInt), Stands: []api.PassStand{stand(math.MaxInt, 0, 0, 0, 0)}},
		"0 0 0 0 0 0 0 0 0 0" + strings.Repeat(" ; 0 0 0 0 0", 9):              {Stands: make([]api.PassStand, 9)},
	} {
		if got := pass.FormatRules(r); got != want {
			t.Errorf("%q in place of %q", got, want)
		}
	}
}

func TestP3_8ParseSchedule(t *testing.T) {
	for text, want := range map[string]api.Errno{
		"best 80 60": api.OK, "best": api.OK, "a 1000": api.OK, "a 1": api.OK, "a 1 2 3 4 5 6": api.OK, "a-b9 7 7": api.OK,
		"": api.ErrSyntax, " ": api.ErrSyntax, " a": api.ErrSyntax, "a ": api.ErrSyntax, "a  1": api.ErrSyntax, " 1": api.ErrSyntax, "a 1 ": api.ErrSyntax, "best 80  60": api.ErrSyntax,
		"a b": api.ErrSyntax, "a 1 b": api.ErrSyntax, "a +1": api.ErrSyntax, "a -1": api.ErrSyntax, "a -0": api.ErrSyntax, "a 01": api.ErrSyntax, "a 00": api.ErrSyntax, "a 1.0": api.ErrSyntax, "a 1e2": api.ErrSyntax, "a 1\t2": api.ErrSyntax, "a 1\n": api.ErrSyntax, "a \xff": api.ErrSyntax, "a /": api.ErrSyntax, "a :": api.ErrSyntax,
		"a 1000000000000": api.ErrRange, "a 9999999999999": api.ErrRange, "a 10000000000000": api.ErrSyntax, "a 00000000000001": api.ErrSyntax, "a 99999999999999999999": api.ErrSyntax,
		"1 80": api.ErrName, "1": api.ErrName, "- 80": api.ErrName, "abcdefghijklm 80": api.ErrName, "a_ 0": api.ErrName, "; 1": api.ErrName, "1 x": api.ErrSyntax, "1 1 2 3 4 5 6 7": api.ErrName, "a\n 1": api.ErrName, "a\t1": api.ErrName,
		"a 1 2 3 4 5 6 7": api.ErrLarge, "a 0 2 3 4 5 6 7": api.ErrLarge, "a 1 2 3 4 5 6 -7": api.ErrSyntax, "a 1 2 3 4 5 6 07": api.ErrSyntax,
		"a 0": api.ErrRange, "a 1001": api.ErrRange, "a 1 2 0": api.ErrRange, "a 1 1001 1": api.ErrRange,
	} {
		s, e := pass.ParseSchedule(text)
		if e != want {
			t.Errorf("%q: %v in place of %v", text, e, want)
		}
		if e == api.OK && pass.FormatSchedule(s) != text || e != api.OK && (s.Name != "" || len(s.Thicknesses) != 0) {
			t.Errorf("%q: %v", text, s)
		}
	}
	if s, e := pass.ParseSchedule("best 80 60"); e != api.OK || !alikeSchedules(s, exampleSchedule()) {
		t.Error(s, e)
	}
	for name, is := range nameCases() {
		if _, e := pass.ParseSchedule(name + " 1"); name != "" && (e == api.OK) != is {
			t.Errorf("%q: %v", name, e)
		}
	}
}

func TestP3_8ParseRules(t *testing.T) {
	const head, one = "10 100 60 10000 10000 9000 2 3 7 8", " ; 300 1 1 0 100"
	for text, want := range map[string]api.Errno{
		head + one: api.OK, head + one + one: api.OK, head + strings.Repeat(one, 6): api.OK, head + " ; 1 1000000000000 1000000000000 0 1000": api.OK,
		"": api.ErrSyntax, " ": api.ErrSyntax, ";": api.ErrSyntax, " ; ": api.ErrSyntax, head: api.ErrShape, head + " ;": api.ErrSyntax, head + " ; ": api.ErrSyntax, head + ";300 1 1 0 100": api.ErrSyntax, head + " ;300 1 1 0 100": api.ErrSyntax, head + "; 300 1 1 0 100": api.ErrSyntax,
		head + "  ; 300 1 1 0 100": api.ErrSyntax, head + " ;  300 1 1 0 100": api.ErrSyntax, head + " ; 300  1 1 0 100": api.ErrSyntax, " " + head + one: api.ErrSyntax, head + one + " ": api.ErrSyntax, head + one + " ;": api.ErrSyntax, head + one + " ; ": api.ErrSyntax, head + " ;" + one: api.ErrSyntax, head + " ; ;" + one[2:]: api.ErrSyntax, one[3:]: api.ErrSyntax, "; " + head + one: api.ErrSyntax,
		head[3:] + one: api.ErrSyntax, head + " 9" + one: api.ErrSyntax, head + " ; 300 1 1 0": api.ErrSyntax, head + " ; 300 1 1 0 100 1": api.ErrSyntax, head + " , 300 1 1 0 100": api.ErrSyntax,
		head + " ; 300 1 1 -0 100": api.ErrSyntax, head + " ; 300 1 1 +0 100": api.ErrSyntax, head + " ; 300 1 1 00 100": api.ErrSyntax, head + " ; 300 1 1 0 x": api.ErrSyntax, head + " ; 300 1 1 0 -1": api.ErrSyntax, "0" + head + one: api.ErrSyntax, "-" + head + one: api.ErrSyntax, head + " ; 300 10000000000000 1 0 100": api.ErrSyntax, "x" + head + one: api.ErrSyntax,
		head + " ; 300 9999999999999 1 0 100": api.ErrRange, head + " ; 300 1000000000001 1 0 100": api.ErrRange, head + " ; 0 1 1 0 100": api.ErrRange, head + " ; 300 1 1 0 1001": api.ErrRange, head + " ; 300 1 1 2 1": api.ErrOrder,
		"0 100 60 10000 10000 9000 2 3 7 8" + one: api.ErrRange, "10 60 100 10000 10000 9000 2 3 7 8" + one: api.ErrOrder, "10 100 60 10001 10000 9000 2 3 7 8" + one: api.ErrOrder, "10 100 60 1 1 1 3 2 7 8" + one: api.ErrOrder, "10 100 60 1 1 1 2 3 8 7": api.ErrOrder, "0 1 1 1 1 1 1 1 1 1": api.ErrRange,
		head + strings.Repeat(one, 7): api.ErrLarge, head + strings.Repeat(one, 7) + " 1": api.ErrSyntax, "0" + head[2:] + strings.Repeat(one, 7): api.ErrRange, head + " ; 0 1 1 0 100" + strings.Repeat(one, 6): api.ErrLarge,
		head + one + "\n": api.ErrSyntax, head + " \xff " + one[3:]: api.ErrSyntax,
	} {
		r, e := pass.ParseRules(text)
		if e != want {
			t.Errorf("%q: %v in place of %v", text, e, want)
		}
		if e == api.OK && pass.FormatRules(r) != text || e != api.OK && pass.FormatRules(r) != "0 0 0 0 0 0 0 0 0 0" {
			t.Errorf("%q: %v", text, r)
		}
	}
	r, e := pass.ParseRules("1 999 3 4 5 6 7 8 9 10 ; 11 12 13 14 15")
	if e != api.OK || r.Width != 1 || r.Start != 999 || r.Finish != 3 || r.Heat != ends(4, 5) || r.Coldest != 6 || r.Stress != ends(7, 8) || r.Friction != ends(9, 10) || !slices.Equal(r.Stands, []api.PassStand{stand(11, 12, 13, 14, 15)}) {
		t.Error(r, e)
	}
}

// TestP3_8LongStrings has strings that are longer than any valid one; the chapter
// names no error for their length.
func TestP3_8LongStrings(t *testing.T) {
	const n = api.MaxString
	for text, want := range map[string]api.Errno{
		"a" + strings.Repeat(" 1", n): api.ErrLarge, strings.Repeat("a", n): api.ErrName, strings.Repeat(" ", n): api.ErrSyntax, "a " + strings.Repeat("1", n): api.ErrSyntax,
	} {
		if _, e := pass.ParseSchedule(text); e != want {
			t.Error(text[:9], e)
		}
	}
	if _, e := pass.ParseRules("1 1 1 1 1 1 1 1 1 1" + strings.Repeat(" ; 1 1 1 1 1", n)); e != api.ErrLarge {
		t.Error(e)
	}
	if _, e := pass.ParseRules(strings.Repeat(" ; ", n)); e != api.ErrSyntax {
		t.Error(e)
	}
}

func TestP3_15Inverses(t *testing.T) {
	rnd := rand.New(rand.NewSource(315))
	for range 1000 {
		r := randomRules(rnd)
		s := randomSchedule(rnd, r)
		text := pass.FormatRules(r)
		if x, e := pass.ParseRules(text); e != api.OK || !alike(x, r) || pass.FormatRules(x) != text {
			t.Fatal(r, x, e)
		}
		text = pass.FormatSchedule(s)
		if x, e := pass.ParseSchedule(text); e != api.OK || !alikeSchedules(x, s) || pass.FormatSchedule(x) != text {
			t.Fatal(s, x, e)
		}
	}
}

// TestP3_15ParsedStringsAreTheOnlyOnes changes one byte of a string: what is read
// then is written as it was read.
func TestP3_15ParsedStringsAreTheOnlyOnes(t *testing.T) {
	rnd := rand.New(rand.NewSource(3150))
	const bytes = " ;0123456789-+ax\t"
	for range 20000 {
		text := []byte(pass.FormatRules(exampleRules()))
		text[rnd.Intn(len(text))] = bytes[rnd.Intn(len(bytes))]
		if r, e := pass.ParseRules(string(text)); e == api.OK && pass.FormatRules(r) != string(text) {
			t.Fatalf("%q: %v", text, r)
		}
		text = []byte(pass.FormatSchedule(exampleSchedule()))
		text[rnd.Intn(len(text))] = bytes[rnd.Intn(len(bytes))]
		if s, e := pass.ParseSchedule(string(text)); e == api.OK && pass.FormatSchedule(s) != string(text) {
			t.Fatalf("%q: %v", text, s)
		}
	}
}
