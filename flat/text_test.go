package flat_test

import (
	"math"
	"math/rand"
	"strconv"
	"strings"
	"testing"

	"cobble/api"
	"cobble/flat"
)

const (
	exampleText = "7 0 7;-5 5 2 1 2"
	profileText = "100 104 102"
)

func TestP7_8Format(t *testing.T) {
	const least, most = "-9223372036854775808", "9223372036854775807"
	for want, r := range map[string]api.FlatRules{
		exampleText: exampleRules(), "9 -4 3 20;-3 4 2 -1 0 5;0 2 1 1 -1 3": twoActors(),
		"": {}, "7": rules(numbers(7)), ";0 0": rules(nil, actor(0, 0)), ";0 0;9 -9 1 2": rules(nil, actor(0, 0), actor(9, -9, 1, 2)), "1;2 3;4 5;6 7;8 9 0": rules(numbers(1), actor(2, 3), actor(4, 5), actor(6, 7), actor(8, 9, 0)), least + ";" + most + " 0 " + least: rules(numbers(math.MinInt), actor(math.MaxInt, 0, math.MinInt)),
	} {
		if got := flat.FormatRules(r); got != want {
			t.Errorf("%q in place of %q", got, want)
		}
	}
	for want, p := range map[string][]int{
		profileText: exampleProfile(), "": nil, "5": numbers(5), "-1 0": numbers(-1, 0), least + " " + most: numbers(math.MinInt, math.MaxInt), "0 0 0 0 0 0 0 0 0 0 0": repeated(0, 11),
	} {
		if got := flat.FormatProfile(p); got != want {
			t.Errorf("%q in place of %q", got, want)
		}
	}
}

// TestP7_8Numbers has words, and whether they are numbers without a sign; those of
// rules may have a sign, too.
func TestP7_8Numbers(t *testing.T) {
	signed := map[string]bool{"-1": true, "-7": true, "-10": true, "-999999": true, "-100000": true}
	for word, is := range map[string]bool{
		"0": true, "7": true, "10": true, "100000": true, "999999": true,
		"-1": false, "-7": false, "-10": false, "-999999": false, "-100000": false,
		"": false, "-": false, "-0": false, "--1": false, "-+1": false, "+1": false, "+0": false, "00": false, "01": false, "-01": false, "000001": false, "-00": false, "1000000": false, "-1000000": false, "0000000": false, "9999999": false, "99999999999999999999": false, "-99999999999999999999": false,
		"4.": false, "4e0": false, "0x4": false, "4_0": false, "_4": false, "x": false, "4x": false, "x4": false, "\u0664": false, "4\t": false, "\n4": false, "4\x00": false, "\xff": false, "/": false, ":": false, "4,": false, "1-": false, "1-1": false, "\u22121": false,
	} {
		for _, text := range []string{word + " 5 5", "5 " + word + " 5", "5 5 " + word} {
			if _, e := flat.ParseProfile(text); (e != api.ErrSyntax) != is {
				t.Errorf("%q: %v", text, e)
			}
		}
		is = is || signed[word]
		for _, text := range []string{word + " 0;0 1 2 3", "0 " + word + ";0 1 2 3", "0 0;" + word + " 1 2 3", "0 0;0 " + word + " 2 3", "0 0;0 1 " + word + " 3", "0 0;0 1 2 3;0 1 2 " + word} {
			if _, e := flat.ParseRules(text); (e != api.ErrSyntax) != is {
				t.Errorf("%q: %v", text, e)
			}
		}
	}
}

func TestP7_8ParseProfile(t *testing.T) {
	const most = api.MaxString
	for text, want := range map[string]api.Errno{
		profileText: api.OK, "1 1 1": api.OK, "100000 100000 100000": api.OK, "1 2 3 4 5 6 7 8 9": api.OK,
		"": api.ErrSyntax, " ": api.ErrSyntax, "  ": api.ErrSyntax, " 1 1 1": api.ErrSyntax, "1 1 1 ": api.ErrSyntax, "1  1 1": api.ErrSyntax, "1\t1\t1": api.ErrSyntax, "1,1,1": api.ErrSyntax, "1;1;1": api.ErrSyntax, "1 1 1;": api.ErrSyntax, "1 1 1\n": api.ErrSyntax, "1 -1 1": api.ErrSyntax, "1 1 x": api.ErrSyntax, "1 01": api.ErrSyntax, "0 0 0 0 0 0 0 0 0 0 0 0 00": api.ErrSyntax,
		"1": api.ErrShape, "0": api.ErrShape, "1 1": api.ErrShape, "1 1 1 1": api.ErrShape, "1 2 3 4 5 6 7 8 9 10": api.ErrShape, "1 2 3 4 5 6 7 8 9 10 11": api.ErrLarge, "0 0 0 0 0 0 0 0 0 0 0": api.ErrLarge, "0 1 1": api.ErrRange, "1 1 100001": api.ErrRange, "999999 1 1": api.ErrRange,
		strings.Repeat("1", most): api.ErrSyntax, strings.Repeat("1", most+1): api.ErrLarge, strings.Repeat(" ", most+1): api.ErrLarge, strings.Repeat("1 ", most/2-1) + "12": api.ErrShape, strings.Repeat("1 ", most/2-2) + "1234": api.ErrLarge, strings.Repeat("1 ", most/2) + "1": api.ErrLarge, profileText + strings.Repeat(" ", most): api.ErrLarge,
	} {
		p, e := flat.ParseProfile(text)
		if e != want {
			t.Errorf("%.40q: %v in place of %v", text, e, want)
		}
		if e == api.OK && flat.FormatProfile(p) != text || e != api.OK && len(p) != 0 {
			t.Errorf("%.40q: %v", text, p)
		}
	}
	if p, e := flat.ParseProfile(profileText); !alike(p, exampleProfile()) || e != api.OK {
		t.Error(p, e)
	}
}

func TestP7_8ParseRules(t *testing.T) {
	const most = api.MaxString
	for text, want := range map[string]api.Errno{
		exampleText: api.OK, "9 -4 3 20;-3 4 2 -1 0 5;0 2 1 1 -1 3": api.OK, "-100000;-10 10 -1000": api.OK, "100000;10 10 1000;-10 -10 0;0 0 1": api.OK, "1 2 3 4 5 6 7 8 9;0 0 1 2 3 4 5 6 7 8 9": api.OK,
		"": api.ErrSyntax, " ": api.ErrSyntax, ";": api.ErrSyntax, ";;": api.ErrSyntax, "7;": api.ErrSyntax, ";0 0 1": api.ErrSyntax, "7;;0 0 1": api.ErrSyntax, "7;0 0 1;": api.ErrSyntax, "7;0": api.ErrSyntax, "7;0 0 1;0": api.ErrSyntax, "7;0 ": api.ErrSyntax, "7;0 0 ": api.ErrSyntax, "7; 0 0 1": api.ErrSyntax, "7 ;0 0 1": api.ErrSyntax, " 7;0 0 1": api.ErrSyntax, "7;0 0 1 ": api.ErrSyntax, "7;0  0 1": api.ErrSyntax, "7;0 0 1\n": api.ErrSyntax, "7;0\t0 1": api.ErrSyntax, "7,0 0 1": api.ErrSyntax, "7:0 0 1": api.ErrSyntax, "7;0,0,1": api.ErrSyntax, "7;0 0 x": api.ErrSyntax, "x;0 0 1": api.ErrSyntax, "7;-0 0 1": api.ErrSyntax, "7;0 00 1": api.ErrSyntax,
		"7": api.ErrShape, "7 0 7": api.ErrShape, "1 2 3 4 5 6 7 8 9 10": api.ErrLarge, "100001;0 0 1": api.ErrRange, "-999999": api.ErrRange, "7;0 0 1;0 0 1;0 0 1;0 0 1": api.ErrLarge, "7;-11 0 1": api.ErrRange, "7;0 11 1": api.ErrRange, "7;1 0 1": api.ErrOrder, "7;0 0": api.ErrShape, "7;0 0 1 1": api.ErrShape, "7 7;0 0 1 1;0 0 1": api.ErrShape, "7;0 0 1001": api.ErrRange, "7;0 0 -1001": api.ErrRange,
		"100001;11 0;": api.ErrSyntax, "1 2 3 4 5 6 7 8 9 10;0": api.ErrSyntax, "7;1 0 1;0": api.ErrSyntax,
		strings.Repeat("1", most): api.ErrSyntax, strings.Repeat("1", most+1): api.ErrLarge, strings.Repeat(";", most+1): api.ErrLarge, strings.Repeat("1;", most/2): api.ErrSyntax, "123;45" + strings.Repeat(";1 2", most/4-2) + " 3": api.ErrSyntax, "12" + strings.Repeat(";1 2", most/4-1) + " 3": api.ErrLarge, exampleText + strings.Repeat(" ", most): api.ErrLarge,
		"7;" + strings.Repeat("1 ", most/2-2) + "12": api.ErrShape, "7;11" + strings.Repeat(" 1", most/2-2): api.ErrRange, "7;0 0 " + strings.Repeat("1 ", most/2-4) + "12": api.ErrShape,
	} {
		r, e := flat.ParseRules(text)
		if e != want {
			t.Errorf("%.40q: %v in place of %v", text, e, want)
		}
		if e == api.OK && flat.FormatRules(r) != text || e != api.OK && !alike(r, api.FlatRules{}) {
			t.Errorf("%.40q: %v", text, r)
		}
	}
	if r, e := flat.ParseRules(exampleText); !alike(r, exampleRules()) || e != api.OK {
		t.Error(r, e)
	}
}

func TestP7_14Reverses(t *testing.T) {
	rnd := rand.New(rand.NewSource(714))
	for range 5000 {
		r := randomRules(rnd, []ruleSizes{smallSizes(), fullSizes()}[rnd.Intn(2)])
		if x, e := flat.ParseRules(flat.FormatRules(r)); !alike(x, r) || e != api.OK {
			t.Fatal(r, x, e)
		}
		p := randomProfile(rnd, randomCount(rnd), []int{20, 100000}[rnd.Intn(2)])
		if x, e := flat.ParseProfile(flat.FormatProfile(p)); !alike(x, p) || e != api.OK {
			t.Fatal(p, x, e)
		}
	}
}

// TestP7_14ParsedStringsAreTheOnlyOnes changes one byte of a string: what is read
// then is written as it was read.
func TestP7_14ParsedStringsAreTheOnlyOnes(t *testing.T) {
	const bytes = " ;0123456789-+ax\t"
	rnd := rand.New(rand.NewSource(7140))
	read := map[string]int{}
	for range 20000 {
		changed := []byte("10 -20 30;-9 10 11 0 -12;0 3 1 20 -3")
		changed[rnd.Intn(len(changed))] = bytes[rnd.Intn(len(bytes))]
		if r, e := flat.ParseRules(string(changed)); e == api.OK {
			read["rules"]++
			if flat.FormatRules(r) != string(changed) {
				t.Fatalf("%q: %v", changed, r)
			}
		}
		changed = []byte("10 2000 300 4 " + strconv.Itoa(rnd.Intn(100)))
		changed[rnd.Intn(len(changed))] = bytes[rnd.Intn(len(bytes))]
		if p, e := flat.ParseProfile(string(changed)); e == api.OK {
			read["profile"]++
			if flat.FormatProfile(p) != string(changed) {
				t.Fatalf("%q: %v", changed, p)
			}
		}
	}
	wantSeen(t, read, 1000, "rules", "profile")
}
