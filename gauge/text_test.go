package gauge_test

import (
	"math"
	"math/rand"
	"strings"
	"testing"

	"cobble/api"
	"cobble/gauge"
)

const exampleText = "10;5 5,-2 -2"

func TestP5_8FormatLoop(t *testing.T) {
	const least, most = "-9223372036854775808", "9223372036854775807"
	for want, l := range map[string]api.GaugeLoop{
		exampleText: exampleLoop(), "10;5 10": wideLoop(), "1;-10 10,0 0,3 -3": loopOf(1, ends(-10, 10), ends(0, 0), ends(3, -3)),
		"0;": {}, "7;": loopOf(7), "-1;11 -11": loopOf(-1, ends(11, -11)), least + ";" + least + " " + most: loopOf(math.MinInt, ends(math.MinInt, math.MaxInt)),
		"0;0 0,0 0,0 0,0 0": {Coefs: make([]api.Range, 4)},
	} {
		if got := gauge.FormatLoop(l); got != want {
			t.Errorf("%q in place of %q", got, want)
		}
	}
}

// numberCases are words, and whether they are numbers of a string that may have a
// sign; below 0 they are ends of ranges alone.
func numberCases() map[string]bool {
	return map[string]bool{
		"0": true, "7": true, "10": true, "99": true, "-1": true, "-9": true, "-10": true, "-99": true,
		"": false, "-": false, "-0": false, "-00": false, "00": false, "01": false, "-01": false, "100": false, "000": false, "-100": false, "999999999999999999999": false,
		"+1": false, "--1": false, "-+1": false, "- 1": false, "1-": false, "1.": false, ".1": false, "1e": false, "x": false, "1x": false, "x1": false, "0x": false, "1_": false, "_1": false, "\u0661": false, "1\t": false, "\n1": false, "1\x00": false, "\xff": false, ":": false, "/": false, "\u22121": false, "1,": false, ";": false,
	}
}

func TestP5_8Numbers(t *testing.T) {
	for word, is := range numberCases() {
		isDen := is && !strings.HasPrefix(word, "-")
		if _, e := gauge.ParseLoop(word + ";1 1"); (e != api.ErrSyntax) != isDen {
			t.Errorf("%q: %v", word, e)
		}
		for _, text := range []string{"1;" + word + " 9", "1;9 " + word, "1;1 1," + word + " 9", "1;1 1,9 " + word, "1;" + word + " 9,1 1", "1;9 " + word + ",1 1"} {
			if _, e := gauge.ParseLoop(text); (e != api.ErrSyntax) != is {
				t.Errorf("%q: %v", text, e)
			}
		}
	}
}

func TestP5_8ParseLoop(t *testing.T) {
	for text, want := range map[string]api.Errno{
		exampleText: api.OK, "10;5 10": api.OK, "1;0 0": api.OK, "1;-10 10,-10 10,-10 10": api.OK, "9;-1 0,0 1": api.OK,
		"": api.ErrSyntax, ";": api.ErrSyntax, " ": api.ErrSyntax, "10": api.ErrSyntax, "10;": api.ErrSyntax, ";5 5": api.ErrSyntax, "10;5": api.ErrSyntax, "10;5 ": api.ErrSyntax, "10; 5": api.ErrSyntax, "10;5 5,": api.ErrSyntax, "10;,5 5": api.ErrSyntax, "10;5 5,,5 5": api.ErrSyntax, "10;5 5;5 5": api.ErrSyntax, ";10;5 5": api.ErrSyntax,
		" 10;5 5": api.ErrSyntax, "10 ;5 5": api.ErrSyntax, "10; 5 5": api.ErrSyntax, "10;5  5": api.ErrSyntax, "10;5 5 ": api.ErrSyntax, "10;5 5, -2 -2": api.ErrSyntax, "10;5 5 ,-2 -2": api.ErrSyntax, "10;5 5 5": api.ErrSyntax, "10;5,5": api.ErrSyntax, "10;5\t5": api.ErrSyntax, "10;5 5\n": api.ErrSyntax, "10,5 5": api.ErrSyntax, "-10;5 5": api.ErrSyntax, "010;5 5": api.ErrSyntax,
		"1;1 1,1 1,1 1,1 1": api.ErrLarge, "0;11 0,1 1,1 1,1 1": api.ErrLarge, "1;1 1,1 1,1 1,1 x": api.ErrSyntax, "1;1 1,1 1,1 1,1 1,": api.ErrSyntax,
		"10;11 5": api.ErrRange, "10;-11 5": api.ErrRange, "10;5 99": api.ErrRange, "10;6 5": api.ErrOrder, "10;-2 -3": api.ErrOrder, "0;6 5": api.ErrOrder, "0;5 5": api.ErrRange, "11;5 5": api.ErrRange, "99;5 5": api.ErrRange, "100;5 5": api.ErrSyntax, "10;5 100": api.ErrSyntax, "10;6 5,x": api.ErrSyntax,
		"1;" + strings.Repeat("1 1,", 100000) + "1 1": api.ErrLarge, strings.Repeat("1", 100000): api.ErrSyntax,
	} {
		l, e := gauge.ParseLoop(text)
		if e != want {
			t.Errorf("%.40q: %v in place of %v", text, e, want)
		}
		if e == api.OK && gauge.FormatLoop(l) != text || e != api.OK && (l.Den != 0 || len(l.Coefs) != 0) {
			t.Errorf("%.40q: %v", text, l)
		}
	}
	if l, e := gauge.ParseLoop(exampleText); e != api.OK || !alike(l, exampleLoop()) {
		t.Error(l, e)
	}
}

func TestP5_15Reverses(t *testing.T) {
	rnd := rand.New(rand.NewSource(515))
	for range 2000 {
		l := randomLoop(rnd, api.MaxGaugeCoef)
		text := gauge.FormatLoop(l)
		if x, e := gauge.ParseLoop(text); e != api.OK || !alike(x, l) || gauge.FormatLoop(x) != text {
			t.Fatal(l, x, e)
		}
	}
}

// TestP5_15ParsedStringsAreTheOnlyOnes changes one byte of a string: what is read
// then is written as it was read.
func TestP5_15ParsedStringsAreTheOnlyOnes(t *testing.T) {
	const bytes = " ;,0123456789-+ax\t"
	rnd := rand.New(rand.NewSource(5150))
	read := 0
	for range 20000 {
		changed := []byte("10;-5 10,2 8,-9 -1")
		changed[rnd.Intn(len(changed))] = bytes[rnd.Intn(len(bytes))]
		text := string(changed)
		if l, e := gauge.ParseLoop(text); e == api.OK {
			read++
			if gauge.FormatLoop(l) != text {
				t.Fatalf("%q: %v", text, l)
			}
		}
	}
	if read == 0 {
		t.Error("no string was read")
	}
}
