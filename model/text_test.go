package model_test

import (
	"math"
	"math/rand"
	"slices"
	"strings"
	"testing"

	"cobble/api"
	"cobble/model"
)

const exampleText = "1/2 1/4 4 8000@200 9000@100 10000@60"

func TestP4_7Formats(t *testing.T) {
	const least, most = "-9223372036854775808", "9223372036854775807"
	for want, c := range map[string]api.ModelCorrection{
		"2 3": correction(2, 3), "0 0": {}, "-1 1000001": correction(-1, 1000001), least + " " + most: correction(math.MinInt, math.MaxInt),
	} {
		if got := model.FormatCorrection(c); got != want {
			t.Errorf("%q in place of %q", got, want)
		}
	}
	for want, c := range map[string]api.ModelCoil{
		"c1 9000@120 8000@260": firstCoil(), "": {}, "a": coil("a"), " 1@2": coil("", 1, 2), "a b -5@0 20001@-1": coil("a b", -5, 0, 20001, -1), "x " + least + "@" + most: coil("x", math.MinInt, math.MaxInt),
		"y" + strings.Repeat(" 0@0", 13): {Name: "y", Readings: make([]api.ModelReading, 13)},
	} {
		if got := model.FormatCoil(c); got != want {
			t.Errorf("%q in place of %q", got, want)
		}
	}
	for want, r := range map[string]api.ModelRules{
		exampleText: exampleRules(), "0/0 0/0 0": {}, "-1/-2 3/-4 -5 -6@-7": {Lowest: frac(-1, -2), Step: frac(3, -4), Steps: -5, Table: knots(-6, -7)},
		"2/4 " + least + "/" + most + " 901":     {Lowest: frac(2, 4), Step: frac(math.MinInt, math.MaxInt), Steps: 901},
		"0/0 0/0 0" + strings.Repeat(" 0@0", 13): {Table: make([]api.ModelKnot, 13)},
	} {
		if got := model.FormatRules(r); got != want {
			t.Errorf("%q in place of %q", got, want)
		}
	}
}

// numberCases are words, and whether they are numbers of a string, from 0 to 20000
// then.
func numberCases() map[string]bool {
	return map[string]bool{
		"0": true, "7": true, "10": true, "20000": true,
		"": false, "-1": false, "-0": false, "+1": false, "00": false, "01": false, "0000001": false, "10000000": false, "00000000": false, "99999999999999999999": false, "18446744073709551617": false,
		"1.0": false, "1e2": false, "x": false, "1x": false, "x1": false, "0x1": false, "1_0": false, "\u0661": false, "1\t": false, "\n1": false, "1\x00": false, "\xff": false, "1,": false, ":": false, "/": false, "@": false, "1/1": false, "1@1": false, "1@": false, "@1": false,
	}
}

func TestP4_7Numbers(t *testing.T) {
	for word, is := range numberCases() {
		for _, text := range []string{"1 " + word, word + " 1"} {
			if _, e := model.ParseCorrection(text); (e == api.ErrSyntax) == is {
				t.Errorf("%q: %v", text, e)
			}
		}
		for _, text := range []string{"a 1@" + word, "a " + word + "@1", "a 1@1 1@" + word, "a " + word + "@1 1@1"} {
			if _, e := model.ParseCoil(text); (e == api.ErrSyntax) == is {
				t.Errorf("%q: %v", text, e)
			}
		}
		for _, text := range []string{word + "/1 1/1 1 1@1", "1/" + word + " 1/1 1 1@1", "1/1 " + word + "/1 1 1@1", "1/1 1/" + word + " 1 1@1", "1/1 1/1 " + word + " 1@1", "1/1 1/1 1 " + word + "@1", "1/1 1/1 1 1@" + word} {
			if _, e := model.ParseRules(text); (e == api.ErrSyntax) == is {
				t.Errorf("%q: %v", text, e)
			}
		}
	}
}

func TestP4_7ParseCorrection(t *testing.T) {
	for text, want := range map[string]api.Errno{
		"2 3": api.OK, "0 0": api.OK, "1000000 900": api.OK,
		"1000001 0": api.ErrRange, "9999999 0": api.ErrRange, "0 901": api.ErrRange, "0 9999999": api.ErrRange, "10000000 0": api.ErrSyntax, "0 10000000": api.ErrSyntax,
		"": api.ErrSyntax, " ": api.ErrSyntax, "2": api.ErrSyntax, "2 ": api.ErrSyntax, " 2": api.ErrSyntax, " 2 3": api.ErrSyntax, "2 3 ": api.ErrSyntax, "2  3": api.ErrSyntax, "2 3 4": api.ErrSyntax, "2 -1": api.ErrSyntax, "-1 2": api.ErrSyntax, "2@3": api.ErrSyntax, "2\t3": api.ErrSyntax, "2 3\n": api.ErrSyntax, "9999999 x": api.ErrSyntax,
	} {
		c, e := model.ParseCorrection(text)
		if e != want {
			t.Errorf("%q: %v in place of %v", text, e, want)
		}
		if e == api.OK && model.FormatCorrection(c) != text || e != api.OK && c != (api.ModelCorrection{}) {
			t.Errorf("%q: %v", text, c)
		}
	}
	if c, e := model.ParseCorrection("2 3"); e != api.OK || c != correction(2, 3) {
		t.Error(c, e)
	}
}

func TestP4_7ParseCoil(t *testing.T) {
	for text, want := range map[string]api.Errno{
		"c1 9000@120 8000@260": api.OK, "a 0@0": api.OK, "a-b9 20000@100000": api.OK, "a" + strings.Repeat(" 5@5", 12): api.OK,
		"": api.ErrSyntax, " ": api.ErrSyntax, " a": api.ErrSyntax, "a ": api.ErrSyntax, " 1@1": api.ErrSyntax, "a  1@1": api.ErrSyntax, "a 1@1 ": api.ErrSyntax, " a 1@1": api.ErrSyntax, "a 1@1  1@1": api.ErrSyntax,
		"c1 9000": api.ErrSyntax, "a 1 @1": api.ErrSyntax, "a 1@ 1": api.ErrSyntax, "a 1@1@1": api.ErrSyntax, "a @": api.ErrSyntax, "a 1@1 b": api.ErrSyntax, "a 1/1": api.ErrSyntax, "a 1@1\n": api.ErrSyntax, "a\n": api.ErrName,
		"1 1@1": api.ErrName, "1": api.ErrName, "1@1": api.ErrName, "1@1 1@1": api.ErrName, "abcdefghijklm 1@1": api.ErrName, "a_ 20001@1": api.ErrName, "1 x": api.ErrSyntax, "-" + strings.Repeat(" 5@5", 13): api.ErrName, "-" + strings.Repeat(" 5@5", 13) + " 5": api.ErrSyntax,
		"c1": api.ErrShape, "a" + strings.Repeat(" 5@5", 13): api.ErrLarge, "a -1@1" + strings.Repeat(" 5@5", 13): api.ErrSyntax, "a 20001@1" + strings.Repeat(" 5@5", 12): api.ErrLarge,
		"c1 20001@1": api.ErrRange, "c1 1@100001": api.ErrRange, "c1 1@1 9999999@1": api.ErrRange, "c1 1@9999999": api.ErrRange, "c1 1@10000000": api.ErrSyntax, "c1 20001@1 x": api.ErrSyntax,
	} {
		c, e := model.ParseCoil(text)
		if e != want {
			t.Errorf("%q: %v in place of %v", text, e, want)
		}
		if e == api.OK && model.FormatCoil(c) != text || e != api.OK && (c.Name != "" || len(c.Readings) != 0) {
			t.Errorf("%q: %v", text, c)
		}
	}
	if c, e := model.ParseCoil("c1 9000@120 8000@260"); e != api.OK || !alike(c, firstCoil()) {
		t.Error(c, e)
	}
	for name, is := range nameCases() {
		if _, e := model.ParseCoil(name + " 1@1"); name != "" && (e == api.OK) != is {
			t.Errorf("%q: %v", name, e)
		}
	}
}

func TestP4_7ParseRules(t *testing.T) {
	const head, one = "1/2 1/4 4", " 8000@200"
	for text, want := range map[string]api.Errno{
		exampleText: api.OK, head + one: api.OK, "900/899 1/900 900 0@1 20000@100000": api.OK, "1/1 1/1 0 0@1": api.OK, head + " 0@1 1@1 2@1 3@1 4@1 5@1 6@1 7@1 8@1 9@1 10@1 11@1": api.OK,
		"": api.ErrSyntax, " ": api.ErrSyntax, "  ": api.ErrSyntax, "1/2": api.ErrSyntax, "1/2 1/4": api.ErrSyntax, "1/2 1/4 ": api.ErrSyntax, "1/2 1/4 8000@200": api.ErrSyntax, head + " ": api.ErrSyntax, " " + head + one: api.ErrSyntax, head + one + " ": api.ErrSyntax, head + " " + one: api.ErrSyntax, "1/2  1/4 4" + one: api.ErrSyntax, "1/2 1/4  4" + one: api.ErrSyntax,
		"1 1/4 4" + one: api.ErrSyntax, "1/2/3 1/4 4" + one: api.ErrSyntax, "1/2 1 4" + one: api.ErrSyntax, "1/2 1/4 4/1" + one: api.ErrSyntax, "1@2 1/4 4" + one: api.ErrSyntax, head + " 8000": api.ErrSyntax, head + " 8000/200": api.ErrSyntax, head + " 1@1@1": api.ErrSyntax, head + one + "\n": api.ErrSyntax, "1 / 2 1/4 4" + one: api.ErrSyntax,
		head: api.ErrShape, head + strings.Repeat(one, 13): api.ErrLarge, head + strings.Repeat(one, 13) + " x": api.ErrSyntax, "2/4 1/4 4": api.ErrShape, "2/4 1/4 4 20001@1": api.ErrRange, head + " 20001@1": api.ErrRange, head + " 1@0": api.ErrRange, head + " 1@100001": api.ErrRange, head + " 2@1 1@1": api.ErrOrder, head + " 2@1 2@1": api.ErrOrder, "2/4 1/4 4 2@1 1@1": api.ErrOrder,
		"2/4 1/4 4 1@1": api.ErrForm, "1/2 2/2 4 1@1": api.ErrForm, "0/0 1/4 4 1@1": api.ErrForm, "1/0 1/4 4 1@1": api.ErrForm, "901/1 2/2 901 1@1": api.ErrForm,
		"0/1 1/4 4 1@1": api.ErrRange, "1/2 0/1 4 1@1": api.ErrRange, "901/1 1/4 4 1@1": api.ErrRange, "1/2 1/901 4 1@1": api.ErrRange, "1/2 1/4 901 1@1": api.ErrRange, "9999999/1 1/4 4 1@1": api.ErrRange, "10000000/1 1/4 4 1@1": api.ErrSyntax,
	} {
		r, e := model.ParseRules(text)
		if e != want {
			t.Errorf("%q: %v in place of %v", text, e, want)
		}
		if e == api.OK && model.FormatRules(r) != text || e != api.OK && model.FormatRules(r) != "0/0 0/0 0" {
			t.Errorf("%q: %v", text, r)
		}
	}
	r, e := model.ParseRules("1/2 3/4 5 6@7 8@9")
	if e != api.OK || r.Lowest != frac(1, 2) || r.Step != frac(3, 4) || r.Steps != 5 || !slices.Equal(r.Table, knots(6, 7, 8, 9)) {
		t.Error(r, e)
	}
}

// TestP4_7LongStrings has strings that are longer than any valid one; the chapter
// names no error for their length.
func TestP4_7LongStrings(t *testing.T) {
	const n = api.MaxString
	for text, want := range map[string]api.Errno{
		"a" + strings.Repeat(" 1@1", n): api.ErrLarge, strings.Repeat("a", n): api.ErrName, strings.Repeat(" ", n): api.ErrSyntax, "a " + strings.Repeat("@", n): api.ErrSyntax, "a 1@" + strings.Repeat("1", n): api.ErrSyntax,
	} {
		if _, e := model.ParseCoil(text); e != want {
			t.Error(text[:9], e)
		}
	}
	for text, want := range map[string]api.Errno{
		"1/1 1/1 1" + strings.Repeat(" 1@1", n): api.ErrLarge, strings.Repeat("1/1 ", n): api.ErrSyntax, strings.Repeat("/", n): api.ErrSyntax, strings.Repeat("1", n): api.ErrSyntax,
	} {
		if _, e := model.ParseRules(text); e != want {
			t.Error(text[:9], e)
		}
		if _, e := model.ParseCorrection(text); e != api.ErrSyntax {
			t.Error(text[:9], e)
		}
	}
}

func TestP4_14Inverses(t *testing.T) {
	rnd := rand.New(rand.NewSource(414))
	for range 1000 {
		c := correction(randomFrom(rnd, 0, api.MaxModelVersion), randomFrom(rnd, 0, api.MaxModelGain))
		text := model.FormatCorrection(c)
		if x, e := model.ParseCorrection(text); e != api.OK || x != c {
			t.Fatal(c, x, e)
		}
		r := randomRules(rnd, api.MaxModelValue, api.MaxModelGain, api.MaxModelGain)
		text = model.FormatRules(r)
		if x, e := model.ParseRules(text); e != api.OK || !alike(x, r) || model.FormatRules(x) != text {
			t.Fatal(r, x, e)
		}
		coil := randomCoil(rnd, r, "a-9Z")
		text = model.FormatCoil(coil)
		if x, e := model.ParseCoil(text); e != api.OK || !alike(x, coil) || model.FormatCoil(x) != text {
			t.Fatal(coil, x, e)
		}
	}
}

// TestP4_14ParsedStringsAreTheOnlyOnes changes one byte of a string: what is read
// then is written as it was read.
func TestP4_14ParsedStringsAreTheOnlyOnes(t *testing.T) {
	rnd := rand.New(rand.NewSource(4140))
	changed := func(text string) string {
		const bytes = " @/0123456789-+ax\t"
		l := []byte(text)
		l[rnd.Intn(len(l))] = bytes[rnd.Intn(len(bytes))]
		return string(l)
	}
	read := 0
	for range 20000 {
		text := changed(exampleText)
		if r, e := model.ParseRules(text); e == api.OK {
			read++
			if model.FormatRules(r) != text {
				t.Fatalf("%q: %v", text, r)
			}
		}
		text = changed("c1 9000@120 8000@260")
		if c, e := model.ParseCoil(text); e == api.OK && model.FormatCoil(c) != text {
			t.Fatalf("%q: %v", text, c)
		}
		text = changed("100 23")
		if c, e := model.ParseCorrection(text); e == api.OK && model.FormatCorrection(c) != text {
			t.Fatalf("%q: %v", text, c)
		}
	}
	if read == 0 {
		t.Error("no string was read")
	}
}
