package cool_test

import (
	"math"
	"math/rand"
	"slices"
	"strings"
	"testing"

	"cobble/api"
	"cobble/cool"
)

const (
	exampleText = "200 10;100 100 0;200 300 2"
	planText    = ";0 1"
)

func TestP8_7Format(t *testing.T) {
	const least, most = "-9223372036854775808", "9223372036854775807"
	for want, x := range map[string]api.CoolTable{
		exampleText: exampleTable(), "0 0": {}, "-1 2": table(-1, 2), "0 0;9 -9 -1": table(0, 0, bank(9, -9, -1)), "0 0;1 2 3;4 5 6;7 8 9;10 11 12;13 14 15": table(0, 0, bank(1, 2, 3), bank(4, 5, 6), bank(7, 8, 9), bank(10, 11, 12), bank(13, 14, 15)), least + " " + most + ";" + most + " 0 " + least: table(math.MinInt, math.MaxInt, bank(math.MaxInt, 0, math.MinInt)),
	} {
		if got := cool.FormatTable(x); got != want {
			t.Errorf("%q in place of %q", got, want)
		}
	}
	for want, p := range map[string]api.CoolPlan{
		planText: examplePlan(), "": plan(nil), ";": plan(nil, nil), ";;;;": plan(nil, nil, nil, nil, nil), "0 30": plan(ranges(0, 30)), "0 1,3 4;;5 5": plan(ranges(0, 1, 3, 4), nil, ranges(5, 5)), "9 -9,9 -9;-1 0": plan(ranges(9, -9, 9, -9), ranges(-1, 0)), least + " " + most + ";": plan(ranges(math.MinInt, math.MaxInt), nil),
	} {
		if got := cool.FormatPlan(p); got != want {
			t.Errorf("%q in place of %q", got, want)
		}
	}
	if got := cool.FormatPlan(api.CoolPlan{}); got != "" {
		t.Errorf("%q", got)
	}
}

// TestP8_7Numbers has words, and how many digits they have if they are numbers; 0 if they
// are none.
func TestP8_7Numbers(t *testing.T) {
	for word, digits := range map[string]int{
		"0": 1, "7": 1, "10": 2, "100": 3, "1000": 4, "9999": 4, "10000": 5, "99999": 5, "100000": 6, "999999": 6,
		"": 0, "-": 0, "-0": 0, "-1": 0, "+1": 0, "+0": 0, "00": 0, "01": 0, "000": 0, "0000": 0, "00000": 0, "00001": 0, "99999999999999999999": 0, "4.": 0, "4e0": 0, "0x4": 0, "4_0": 0, "_4": 0, "x": 0, "4x": 0, "x4": 0, "\u0664": 0, "4\t": 0, "\n4": 0, "4\x00": 0, "\xff": 0, "/": 0, ":": 0, "1-": 0, "1-1": 0, "\u22121": 0,
	} {
		for _, text := range []string{word + " 0;0 1 2", "0 " + word + ";0 1 2", "0 0;" + word + " 1 2", "0 0;0 " + word + " 2", "0 0;0 1 " + word, "0 0;0 1 2;0 1 " + word} {
			if _, e := cool.ParseTable(text); (e != api.ErrSyntax) != (digits > 0 && digits <= 5) {
				t.Errorf("%q: %v", text, e)
			}
		}
		for _, text := range []string{word + " 0", "0 " + word, "0 0," + word + " 2", "0 0,2 " + word, ";" + word + " 0;", ";0 " + word} {
			if _, e := cool.ParsePlan(text); (e != api.ErrSyntax) != (digits > 0 && digits <= 4) {
				t.Errorf("%q: %v", text, e)
			}
		}
	}
}

func TestP8_7ParseTable(t *testing.T) {
	const most = api.MaxString
	for text, want := range map[string]api.Errno{
		exampleText: api.OK, "0 0;0 0 0": api.OK, "12000 100;1000 1000 8;0 1000 0;0 0 8;500 500 4": api.OK,
		"": api.ErrSyntax, " ": api.ErrSyntax, "200": api.ErrSyntax, "200 ": api.ErrSyntax, " 200 10": api.ErrSyntax, "200  10": api.ErrSyntax, "200 10 ": api.ErrSyntax, "200 10 1": api.ErrSyntax, "200\t10": api.ErrSyntax, "200,10": api.ErrSyntax, "200;10": api.ErrSyntax, "200 10;": api.ErrSyntax, "200 10;;0 0 0": api.ErrSyntax, ";0 0 0": api.ErrSyntax, ";": api.ErrSyntax, "200 10;0": api.ErrSyntax, "200 10;0 0": api.ErrSyntax, "200 10;0 0 0 0": api.ErrSyntax, "200 10;0 0 0;": api.ErrSyntax, "200 10; 0 0 0": api.ErrSyntax, "200 10;0 0 0 ": api.ErrSyntax, "200 10;0 0 0\n": api.ErrSyntax, "200 10;0  0 0": api.ErrSyntax, "200 10;0,0,0": api.ErrSyntax, "200 10:0 0 0": api.ErrSyntax, "200 10;0 0 0;0 0": api.ErrSyntax,
		"200 10": api.ErrShape, "12001 0": api.ErrRange, "99999 0;0 0 0": api.ErrRange, "0 101;0 0 0": api.ErrRange, "0 0;0 0 0;0 0 0;0 0 0;0 0 0;0 0 0": api.ErrLarge, "0 0;0 1001 0": api.ErrRange, "0 0;0 0 9": api.ErrRange, "0 0;0 0 0;2 1 0": api.ErrOrder,
		"12001 0;0": api.ErrSyntax, "0 0;2 1 0;x": api.ErrSyntax, "0 0;0 0 0;0 0 0;0 0 0;0 0 0;0 0 0;": api.ErrSyntax,
		strings.Repeat("1", most): api.ErrSyntax, strings.Repeat("1", most+1): api.ErrLarge, strings.Repeat(";", most+1): api.ErrLarge, exampleText + strings.Repeat(" ", most): api.ErrLarge,
		"00 10;" + strings.Repeat("0 0 0;", most/6-1): api.ErrSyntax, "0 10" + strings.Repeat(";0 0 0", most/6-1) + "00": api.ErrSyntax, "10 1" + strings.Repeat(";0 0 0", most/6-1) + ";0": api.ErrSyntax, "0 1000" + strings.Repeat(";0 0 0", most/6-1): api.ErrRange, "10 1000" + strings.Repeat(";0 0 0", most/6-1): api.ErrLarge,
	} {
		x, e := cool.ParseTable(text)
		if e != want {
			t.Errorf("%.40q: %v in place of %v", text, e, want)
		}
		if e == api.OK && cool.FormatTable(x) != text || e != api.OK && !alike(x, api.CoolTable{}) {
			t.Errorf("%.40q: %v", text, x)
		}
	}
	if x, e := cool.ParseTable(exampleText); !alike(x, exampleTable()) || e != api.OK {
		t.Error(x, e)
	}
}

func TestP8_7ParsePlan(t *testing.T) {
	const most = api.MaxString
	for text, want := range map[string]api.Errno{
		planText: api.OK, "": api.OK, ";": api.OK, ";;;": api.OK, "0 0": api.OK, "0 1,3 30;;5 5,7 7;": api.OK, "0 0;0 0;0 0;0 0": api.OK, "0 0,2 2,4 4,6 6,8 8,10 10,12 12,14 14,16 16,18 18,20 20,22 22,24 24,26 26,28 28,30 30": api.OK,
		" ": api.ErrSyntax, ",": api.ErrSyntax, "0": api.ErrSyntax, "0 ": api.ErrSyntax, " 0": api.ErrSyntax, "0 0 ": api.ErrSyntax, " 0 0": api.ErrSyntax, "0  0": api.ErrSyntax, "0 0 0": api.ErrSyntax, "0 0,": api.ErrSyntax, ",0 0": api.ErrSyntax, "0 0,,2 2": api.ErrSyntax, "0 0, 2 2": api.ErrSyntax, "0 0 ,2 2": api.ErrSyntax, "0 0,2": api.ErrSyntax, "0,0": api.ErrSyntax, "0;0": api.ErrSyntax, "0 0; ": api.ErrSyntax, " ;0 0": api.ErrSyntax, "0 0;,": api.ErrSyntax, "0\t0": api.ErrSyntax, "0 0\n": api.ErrSyntax, "0 0:0 0": api.ErrSyntax,
		";;;;": api.ErrLarge, "0 0;0 0;0 0;0 0;0 0": api.ErrLarge, "0 31;;;;": api.ErrLarge, strings.Repeat("0 0,", 20) + "0 0": api.ErrLarge, strings.Repeat("0 0,", 19) + "0 0": api.ErrOrder, "2 1;" + strings.Repeat("0 0,", 20) + "0 0": api.ErrOrder, ";" + strings.Repeat("0 0,", 20) + "0 31;2 1": api.ErrLarge,
		"0 31": api.ErrRange, "31 0": api.ErrRange, "9999 9999": api.ErrRange, ";;0 1,3 31": api.ErrRange, "2 1": api.ErrOrder, "0 1,2 3": api.ErrOrder, "0 1;4 5,0 1": api.ErrOrder, "2 1;31 31": api.ErrOrder, "31 31;2 1": api.ErrRange,
		";;;;x": api.ErrSyntax, "2 1;0": api.ErrSyntax, "31 31,": api.ErrSyntax, "0 0;0 0;0 0;0 0;0 00": api.ErrSyntax,
		strings.Repeat(";", most): api.ErrLarge, strings.Repeat(";", most+1): api.ErrLarge, strings.Repeat(" ", most): api.ErrSyntax, strings.Repeat("x", most+1): api.ErrLarge, planText + strings.Repeat(" ", most): api.ErrLarge, "31 31" + strings.Repeat(";", 3) + strings.Repeat(" ", most): api.ErrLarge, "31 30;1" + strings.Repeat(" 1,1", most/4-2) + " ": api.ErrSyntax, "31 30;1" + strings.Repeat(" 1,1", most/4-2) + "0": api.ErrSyntax, "31 3;1" + strings.Repeat(" 1,1", most/4-2) + " 1": api.ErrRange, "31 30;1" + strings.Repeat(" 1,1", most/4-2) + " 1": api.ErrLarge,
	} {
		p, e := cool.ParsePlan(text)
		if e != want {
			t.Errorf("%.40q: %v in place of %v", text, e, want)
		}
		if e == api.OK && cool.FormatPlan(p) != text || e != api.OK && !alike(p, api.CoolPlan{}) {
			t.Errorf("%.40q: %v", text, p)
		}
	}
	if p, e := cool.ParsePlan(planText); !alike(p, examplePlan()) || e != api.OK {
		t.Error(p, e)
	}
	if p, e := cool.ParsePlan(""); !alike(p, plan(nil)) || len(p.Commands) != 1 || e != api.OK {
		t.Error(p, e)
	}
	if p, e := cool.ParsePlan(";;"); !alike(p, plan(nil, nil, nil)) || e != api.OK {
		t.Error(p, e)
	}
}

// TestP8_7Commands has the commands that can be written in a string, alone and after
// other parts.
func TestP8_7Commands(t *testing.T) {
	written := 0
	for i, x := range commandsCases() {
		if slices.ContainsFunc(x.l, func(r api.Range) bool { return min(r.Lo, r.Hi) < 0 || max(r.Lo, r.Hi) > 9999 }) {
			continue
		}
		written++
		for _, before := range []string{"", ";", "0 30;;"} {
			text := before + cool.FormatPlan(plan(x.l))
			if _, e := cool.ParsePlan(text); e != x.want {
				t.Errorf("%d: %q: %v in place of %v", i, text, e, x.want)
			}
		}
	}
	if written < 20 {
		t.Error("too few commands are written", written)
	}
}

func TestP8_14Reverses(t *testing.T) {
	rnd := rand.New(rand.NewSource(814))
	for range 5000 {
		x := randomTable(rnd, api.MaxCoolBanks, api.MaxCoolDelay)
		if y, e := cool.ParseTable(cool.FormatTable(x)); !alike(x, y) || e != api.OK {
			t.Fatal(x, y, e)
		}
		p := randomPlan(rnd, x)
		if q, e := cool.ParsePlan(cool.FormatPlan(p)); !alike(p, q) || e != api.OK {
			t.Fatal(p, q, e)
		}
	}
}

// TestP8_14ParsedStringsAreTheOnlyOnes changes one byte of a string: what is read then is
// written as it was read.
func TestP8_14ParsedStringsAreTheOnlyOnes(t *testing.T) {
	const bytes = " ;,0123456789-+ax\t"
	rnd := rand.New(rand.NewSource(8140))
	read := map[string]int{}
	for range 20000 {
		changed := []byte("1000 20;100 300 1;20 30 2;500 1000 8")
		changed[rnd.Intn(len(changed))] = bytes[rnd.Intn(len(bytes))]
		if x, e := cool.ParseTable(string(changed)); e == api.OK {
			read["table"]++
			if cool.FormatTable(x) != string(changed) {
				t.Fatalf("%q: %v", changed, x)
			}
		}
		changed = []byte("1 2,5 9,11 20;;3 4,7 19,25 30;12 12")
		changed[rnd.Intn(len(changed))] = bytes[rnd.Intn(len(bytes))]
		if p, e := cool.ParsePlan(string(changed)); e == api.OK {
			read["plan"]++
			if cool.FormatPlan(p) != string(changed) {
				t.Fatalf("%q: %v", changed, p)
			}
		}
	}
	wantSeen(t, read, 1000, "table", "plan")
}
