package trace_test

import (
	"fmt"
	"math"
	"math/big"
	"math/rand"
	"slices"
	"strings"
	"testing"

	"cobble/api"
	"cobble/trace"
)

func writtenByHand(x *big.Rat) string {
	if x.IsInt() {
		return x.Num().String()
	}
	return x.String()
}

// reportByHand is the report of a course, or the error of its parts.
func reportByHand(c api.TraceCourse, readings []api.TraceReading) (string, api.Errno) {
	n := len(c.Steps)
	text := c.Slab + " " + writtenByHand(stripByHand(c, n).length())
	for _, r := range readings {
		slab, coil := movedByHand(c, rat(r.At, 1), r.Step, 0), movedByHand(c, rat(r.At, 1), r.Step, n)
		if _, e := fracByHand(slab); e != api.OK {
			return "", e
		}
		text += fmt.Sprintf(";%d %d %s ", r.Step, r.At, writtenByHand(slab))
		if coil == nil {
			text += "-"
		} else if _, e := fracByHand(coil); e != api.OK {
			return "", e
		} else {
			text += writtenByHand(coil)
		}
		text += map[bool]string{true: " yes", false: " no"}[r.Present]
	}
	return text, api.OK
}

func TestP9_7Report(t *testing.T) {
	c := exampleCourse()
	for want, r := range map[string][]api.TraceReading{
		"s1 4000;1 4500 1250 3500 no;1 500 500/3 - no": exampleReadings(),
		"s1 4000": nil,
		"s1 4000;0 0 0 - yes;0 1500 1500 - no;2 4000 4000/3 4000 yes;2 0 1000/3 0 yes;1 1000 1000/3 0 no": {reading(0, 0, true), reading(0, 1500, false), reading(2, 4000, true), reading(2, 0, true), reading(1, 1000, false)},
	} {
		text, e := trace.ReportOf(c, r)
		wantSame(t, "ReportOf", text, e, want, api.OK)
	}
	text, e := trace.ReportOf(mustParse(t, "B-1;29*1;p 3"), []api.TraceReading{reading(0, 29, true), reading(0, 1, true), reading(1, 9, false)})
	wantSame(t, "ReportOf", text, e, "B-1 29/3;0 29 29 29/3 yes;0 1 1 1/3 yes;1 9 27 9 no", api.OK)
	c.Slab = "1"
	text, e = trace.ReportOf(c, make([]api.TraceReading, 11))
	wantSame(t, "ReportOf", text, e, "", api.ErrName)
}

// TestP9_7LargeReports has positions with large parts: of one point on the slab, of the
// other one on the coil.
func TestP9_7LargeReports(t *testing.T) {
	c := mustParse(t, largeText)
	small := []api.TraceReading{reading(1, 1008, true), reading(0, 1000, false)}
	text, e := trace.ReportOf(c, small)
	wantSame(t, "ReportOf", text, e, "a 19760541/991;1 1008 999915027/988027 1008 yes;0 1000 1000 987039973/991000 no", api.OK)
	for _, r := range []api.TraceReading{reading(1, 1009, true), reading(0, 1030, false)} {
		for i := range 3 {
			text, e = trace.ReportOf(c, slices.Insert(slices.Clone(small), i, r))
			wantSame(t, "ReportOf", text, e, "", api.ErrLarge)
		}
	}
}

func TestP9_7ReportByHand(t *testing.T) {
	rnd := rand.New(rand.NewSource(97))
	seen := map[string]int{}
	for range 1500 {
		c := randomCourse(rnd)
		r := randomReadings(rnd, c, rnd.Intn(api.MaxTraceReadings+1))
		want, wrong := reportByHand(c, r)
		text, e := trace.ReportOf(c, r)
		wantSame(t, "ReportOf", text, e, want, wrong)
		switch {
		case e != api.OK:
			seen["large"]++
		case strings.Contains(text, " - "):
			seen["cut away"]++
		default:
			seen["all"]++
		}
	}
	wantSeen(t, seen, 20, "large", "cut away", "all")
}

func TestP9_7Format(t *testing.T) {
	const least, most = "-9223372036854775808", "9223372036854775807"
	for want, c := range map[string]api.TraceCourse{
		exampleText: exampleCourse(), ";": {}, "s1;": course(nil, nil), "s1;0*5": course(nil, numbers(5)), "s1;7*0": course(numbers(7), nil), "s1;7*5,8*0,9*0": course(numbers(7, 8, 9), numbers(5)), "s1;7*5,0*-6": course(numbers(7), numbers(5, -6)),
		"s1;;p 1":             course(nil, nil, pass(1)),
		"s1;;p ":              course(nil, nil, pass()),
		"s1;;p ;p ":           course(nil, nil, pass(), api.TraceStep{Areas: []int{}, From: 3, To: 4}),
		"s1;1*1;c 0 0;c 3 -4": course(numbers(1), numbers(1), cut(0, 0), api.TraceStep{Kind: api.TraceCut, Areas: numbers(7), From: 3, To: -4}),
		"s1;1*1;c 5 6;c 7 8":  course(numbers(1), numbers(1), api.TraceStep{Kind: 2, Areas: numbers(1), From: 5, To: 6}, api.TraceStep{Kind: -1, Areas: numbers(1), From: 7, To: 8}),
		"s1;" + least + "*" + most + ";p " + most + "," + least + ";c " + least + " " + most: course(numbers(math.MinInt), numbers(math.MaxInt), pass(math.MaxInt, math.MinInt), cut(math.MinInt, math.MaxInt)),
	} {
		if got := trace.FormatCourse(c); got != want {
			t.Errorf("%q in place of %q", got, want)
		}
	}
	if got := trace.FormatCourse(api.TraceCourse{Slab: "a;b 1*1"}); got != "a;b 1*1;" {
		t.Errorf("%q", got)
	}
}

// TestP9_7Numbers has words, and whether they are numbers, in all places of a string.
func TestP9_7Numbers(t *testing.T) {
	for word, is := range map[string]bool{
		"0": true, "7": true, "10": true, "100": true, "9999999": true, "1000000": true,
		"10000000": false, "99999999": false, "": false, "-": false, "-0": false, "-1": false, "+1": false, "+0": false, "00": false, "01": false, "0000000": false, "0000001": false, "99999999999999999999": false, "4.": false, "4e0": false, "0x4": false, "4_0": false, "_4": false, "x": false, "4x": false, "x4": false, "\u0664": false, "4\t": false, "\n4": false, "4\x00": false, "\xff": false, "/": false, ":": false, "1-": false, "1-1": false, "\u22121": false, " 1": false, "1 ": false, "1*1": false, "1,": false, ",1": false,
	} {
		for _, text := range []string{"a;" + word + "*1", "a;1*" + word, "a;1*1," + word + "*1", "a;1*1,1*" + word, "a;1*1;p " + word, "a;1*1;p 1,1," + word, "a;1*1;c " + word + " 1", "a;1*1;c 0 " + word} {
			if _, e := trace.ParseCourse(text); (e != api.ErrSyntax) != is {
				t.Errorf("%q: %v", text, e)
			}
		}
	}
}

func TestP9_7Parse(t *testing.T) {
	const most = api.MaxString
	for text, want := range map[string]api.Errno{
		exampleText: api.OK, "s1;1*1": api.OK, "A-0;20000*1000;c 0 1;p 1000": api.OK,
		"": api.ErrSyntax, " ": api.ErrSyntax, "s1": api.ErrSyntax, "s1;": api.ErrSyntax, ";": api.ErrSyntax, ";;": api.ErrSyntax, "s1;;p 1": api.ErrSyntax, "s1; ": api.ErrSyntax, "s1;1": api.ErrSyntax, "s1;1*": api.ErrSyntax, "s1;*1": api.ErrSyntax, "s1;*": api.ErrSyntax, "s1;1*1*1": api.ErrSyntax, "s1;1**1": api.ErrSyntax, "s1;1*1,": api.ErrSyntax, "s1;,1*1": api.ErrSyntax, "s1;1*1,,1*1": api.ErrSyntax, "s1;1*1 1*1": api.ErrSyntax, "s1;1 * 1": api.ErrSyntax, "s1; 1*1": api.ErrSyntax, "s1;1*1 ": api.ErrSyntax, "s1 ;1*1 ": api.ErrSyntax, "s1;1x1": api.ErrSyntax,
		"s1;1*1;": api.ErrSyntax, "s1;1*1;p": api.ErrSyntax, "s1;1*1;p ": api.ErrSyntax, "s1;1*1;p 1,": api.ErrSyntax, "s1;1*1;p ,1": api.ErrSyntax, "s1;1*1;p ,": api.ErrSyntax, "s1;1*1;p 1 1": api.ErrSyntax, "s1;1*1;p  1": api.ErrSyntax, "s1;1*1; p 1": api.ErrSyntax, "s1;1*1;p 1 ": api.ErrSyntax, "s1;1*1;P 1": api.ErrSyntax, "s1;1*1;p1": api.ErrSyntax, "s1;1*1;pp 1": api.ErrSyntax, "s1;1*1;1": api.ErrSyntax, "s1;1*1; 1": api.ErrSyntax, "s1;1*1;x 1": api.ErrSyntax, "s1;1*1;p\t1": api.ErrSyntax, "s1;1*1;p 1\n": api.ErrSyntax,
		"s1;1*1;c": api.ErrSyntax, "s1;1*1;c ": api.ErrSyntax, "s1;1*1;c 0": api.ErrSyntax, "s1;1*1;c 0 ": api.ErrSyntax, "s1;1*1;c 0 1 ": api.ErrSyntax, "s1;1*1;c 0 1 1": api.ErrSyntax, "s1;1*1;c  0 1": api.ErrSyntax, "s1;1*1;c 0  1": api.ErrSyntax, "s1;1*1;c 0,1": api.ErrSyntax, "s1;1*1;C 0 1": api.ErrSyntax, "s1;1*1;c0 1": api.ErrSyntax, "s1;1*1;c 0 1;": api.ErrSyntax, "s1;1*1;;c 0 1": api.ErrSyntax, "s1;1*1;c 0 1\x00": api.ErrSyntax,
		";1*1": api.ErrName, "1;1*1": api.ErrName, "a b;1*1": api.ErrName, " a;1*1": api.ErrName, "a234567890123;1*1": api.ErrName, "\xff;1*1": api.ErrName, "1*1;1*1": api.ErrName,
		"1;0*1": api.ErrName, "a;0*1": api.ErrRange, "a;1*1001": api.ErrRange, "a;20001*1": api.ErrRange, "a;9999999*9999999": api.ErrRange, "a;0*0,1*1,1*1,1*1,1*1,1*1,1*1": api.ErrLarge, "a;1*1;p 0": api.ErrRange, "a;1*1;p 1,1": api.ErrShape, "a;1*1,1*1;p 1": api.ErrShape, "a;1*1;c 1 1": api.ErrOrder, "a;1*1;c 1 0": api.ErrOrder, "a;1*1;c 0 2": api.ErrMissing, "a;1*1;c 0 1000001": api.ErrRange, "a;20000*1000,20000*1;p 1,53": api.ErrLarge,
		"1;1": api.ErrSyntax, "1;1*1;": api.ErrSyntax, "a;0*1;p ": api.ErrSyntax, "a;0*0,1*1,1*1,1*1,1*1,1*1,1*1;c": api.ErrSyntax,
		strings.Repeat("a", most): api.ErrSyntax, strings.Repeat("a", most+1): api.ErrLarge, strings.Repeat("a", most-4) + ";1*1": api.ErrName, strings.Repeat("a", most-3) + ";1*1": api.ErrLarge, "a;1*1" + strings.Repeat(" ", most): api.ErrLarge, "a;" + strings.Repeat("1*1,", (most-5)/4) + "1*1": api.ErrLarge, "a;1" + strings.Repeat("*1", (most-3)/2): api.ErrSyntax, "a;1*1;p 1" + strings.Repeat(",1", (most-9)/2): api.ErrShape,
	} {
		c, e := trace.ParseCourse(text)
		if e != want {
			t.Errorf("%.40q: %v in place of %v", text, e, want)
		}
		if e == api.OK && trace.FormatCourse(c) != text || e != api.OK && !alike(c, api.TraceCourse{}) {
			t.Errorf("%.40q: %v", text, c)
		}
	}
	if c, e := trace.ParseCourse(exampleText); !alike(c, exampleCourse()) || e != api.OK {
		t.Error(c, e)
	}
}

func TestP9_14TheSameReport(t *testing.T) {
	rnd := rand.New(rand.NewSource(914))
	for range 2000 {
		c := randomCourse(rnd)
		d, e := trace.ParseCourse(trace.FormatCourse(c))
		wantSame(t, "ParseCourse", d, e, c, api.OK)
		r := randomReadings(rnd, c, rnd.Intn(4))
		first, wrong := trace.ReportOf(c, r)
		again, e := trace.ReportOf(d, r)
		wantSame(t, "ReportOf", again, e, first, wrong)
	}
}

// TestP9_14ParsedStringsAreTheOnlyOnes changes one byte of a string: what is read then is
// written as it was read.
func TestP9_14ParsedStringsAreTheOnlyOnes(t *testing.T) {
	const bytes = " ;,*0123456789-+pcax\t"
	rnd := rand.New(rand.NewSource(9140))
	read := map[bool]int{}
	for range 20000 {
		changed := []byte("slab-1;1000*30,500*60,20*5;p 10,12,15;c 100 5000;p 9,9;c 10 400;p 8")
		changed[rnd.Intn(len(changed))] = bytes[rnd.Intn(len(bytes))]
		c, e := trace.ParseCourse(string(changed))
		if e == api.OK && trace.FormatCourse(c) != string(changed) {
			t.Fatalf("%q: %v", changed, c)
		}
		read[e == api.OK]++
	}
	wantSeen(t, read, 1000, true, false)
}
