package roll_test

import (
	"math"
	"math/rand"
	"strings"
	"testing"

	"cobble/api"
	"cobble/roll"
)

const exampleText = "a 4 0"

func TestP6_6FormatDrum(t *testing.T) {
	const least, most = "-9223372036854775808", "9223372036854775807"
	for want, d := range map[string]api.RollDrum{
		exampleText: exampleDrum(), "Back-up-2 64 63": {Name: "Back-up-2", Period: 64, Offset: 63},
		" 0 0": {}, "9 -1 7": {Name: "9", Period: -1, Offset: 7}, "a  b 3 3": {Name: "a  b", Period: 3, Offset: 3}, "a " + least + " " + most: drum(math.MinInt, math.MaxInt),
	} {
		if got := roll.FormatDrum(d); got != want {
			t.Errorf("%q in place of %q", got, want)
		}
	}
}

// TestP6_6Numbers has words, and whether they are numbers of a string.
func TestP6_6Numbers(t *testing.T) {
	for word, is := range map[string]bool{
		"0": true, "7": true, "10": true, "64": true, "999": true, "1000": true, "9999": true,
		"": false, "-": false, "-0": false, "-1": false, "+1": false, "00": false, "01": false, "004": false, "0004": false, "10000": false, "00000": false, "99999999999999999999": false,
		"4.": false, "4e0": false, "0x4": false, "4_0": false, "_4": false, "x": false, "4x": false, "x4": false, "\u0664": false, "4\t": false, "\n4": false, "4\x00": false, "\xff": false, "/": false, ":": false, "4,": false,
	} {
		for _, text := range []string{"a " + word + " 0", "a 4 " + word, "9 " + word + " 0", "9 4 " + word} {
			if _, e := roll.ParseDrum(text); (e != api.ErrSyntax) != is {
				t.Errorf("%q: %v", text, e)
			}
		}
	}
}

func TestP6_6ParseDrum(t *testing.T) {
	for text, want := range map[string]api.Errno{
		exampleText: api.OK, "Back-up-2 64 63": api.OK, "abcdefghijkl 12 11": api.OK,
		"": api.ErrSyntax, " ": api.ErrSyntax, "  ": api.ErrSyntax, "   ": api.ErrSyntax, "a": api.ErrSyntax, "a 4": api.ErrSyntax, "a 4 ": api.ErrSyntax, " 4 0": api.ErrSyntax, "a  0": api.ErrSyntax, "a 4 0 0": api.ErrSyntax, "a 4 0 ": api.ErrSyntax, " a 4 0": api.ErrSyntax, "a  4 0": api.ErrSyntax, "a 4  0": api.ErrSyntax, "a\t4\t0": api.ErrSyntax, "a 4\t0": api.ErrSyntax, "a 4 0\n": api.ErrSyntax, "a,4,0": api.ErrSyntax, "4 0 a": api.ErrSyntax, "a b 4 0": api.ErrSyntax,
		"9 4 0": api.ErrName, "-a 4 0": api.ErrName, "a_ 4 0": api.ErrName, "a\t 4 0": api.ErrName, "abcdefghijklm 4 0": api.ErrName, "\u00e9 4 0": api.ErrName, "\x00 4 0": api.ErrName, "9 5 9": api.ErrName,
		"a 3 0": api.ErrRange, "a 0 0": api.ErrRange, "a 65 0": api.ErrRange, "a 9999 9999": api.ErrRange, "a 6 9": api.ErrForm, "a 63 0": api.ErrForm, "a 4 4": api.ErrRange, "a 64 64": api.ErrRange, "a 64 9999": api.ErrRange,
		"9 x 0": api.ErrSyntax, "9 4 00": api.ErrSyntax, "a 10000 0": api.ErrSyntax, "a 4 10000": api.ErrSyntax,
		strings.Repeat("a", 100000) + " 4 0": api.ErrName, strings.Repeat("a ", 100000): api.ErrSyntax, "a 4 " + strings.Repeat("1", 100000): api.ErrSyntax,
	} {
		d, e := roll.ParseDrum(text)
		if e != want {
			t.Errorf("%.40q: %v in place of %v", text, e, want)
		}
		if e == api.OK && roll.FormatDrum(d) != text || e != api.OK && d != (api.RollDrum{}) {
			t.Errorf("%.40q: %v", text, d)
		}
	}
	if d, e := roll.ParseDrum(exampleText); d != exampleDrum() || e != api.OK {
		t.Error(d, e)
	}
}

func TestP6_14Reverses(t *testing.T) {
	const letters, all = "abyzABYZ", "abyzABYZ0189-"
	rnd := rand.New(rand.NewSource(614))
	for range 5000 {
		d := randomDrum(rnd, api.MaxRollPeriod)
		name := []byte{letters[rnd.Intn(len(letters))]}
		for range randomFrom(rnd, 0, api.MaxName-1) {
			name = append(name, all[rnd.Intn(len(all))])
		}
		d.Name = string(name)
		text := roll.FormatDrum(d)
		if x, e := roll.ParseDrum(text); x != d || e != api.OK {
			t.Fatal(d, x, e)
		}
	}
}

// TestP6_14ParsedStringsAreTheOnlyOnes changes one byte of a string: what is read
// then is written as it was read.
func TestP6_14ParsedStringsAreTheOnlyOnes(t *testing.T) {
	const bytes = " 0123456789-+ax\t"
	rnd := rand.New(rand.NewSource(6140))
	read := 0
	for range 20000 {
		changed := []byte("top-2 24 11")
		changed[rnd.Intn(len(changed))] = bytes[rnd.Intn(len(bytes))]
		text := string(changed)
		if d, e := roll.ParseDrum(text); e == api.OK {
			read++
			if roll.FormatDrum(d) != text {
				t.Fatalf("%q: %v", text, d)
			}
		}
	}
	if read == 0 {
		t.Error("no string was read")
	}
}
