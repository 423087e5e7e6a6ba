package trace_test

import (
	"math"
	"math/rand"
	"slices"
	"strings"
	"testing"

	"cobble/api"
	"cobble/trace"
)

// longest is a course with the most sections and steps.
func longest() api.TraceCourse {
	c := course(slices.Repeat(numbers(api.MaxTraceLength), 6), slices.Repeat(numbers(api.MaxTraceArea), 6))
	for range api.MaxTraceSteps {
		c.Steps = append(c.Steps, pass(slices.Repeat(numbers(1), 6)...))
	}
	return c
}

func TestP9_1Example(t *testing.T) {
	c := exampleCourse()
	for k, want := range []api.TraceStrip{
		strip(section(whole(1000), 30), section(whole(500), 60)),
		strip(section(whole(3000), 10), section(whole(3000), 10)),
		strip(section(whole(2000), 10), section(whole(2000), 10)),
	} {
		s, e := trace.StripAfter(c, k)
		wantSame(t, "StripAfter", s, e, want, api.OK)
		l, e := trace.LengthAfter(c, k)
		wantSame(t, "LengthAfter", l, e, whole(numbers(1500, 6000, 4000)[k]), api.OK)
		v, e := trace.VolumeAfter(c, k)
		wantSame(t, "VolumeAfter", v, e, whole(numbers(60000, 60000, 40000)[k]), api.OK)
	}
	i, e := trace.CheckCourse(c)
	wantSame(t, "CheckCourse", i, e, 0, api.OK)
}

// TestP9_1SlabErrors has errors in all of a course, and mends them in their order.
func TestP9_1SlabErrors(t *testing.T) {
	const wrong = math.MinInt
	c := course(nil, numbers(1), slices.Repeat([]api.TraceStep{{Kind: -1}}, 11)...)
	c.Slab = "1"
	call := func() api.Errno {
		i, e := trace.CheckCourse(c)
		if i != 0 {
			t.Error("index", i, e)
		}
		return e
	}
	wantErrors(t, call,
		step{api.ErrName, func() { c.Slab = "" }},
		step{api.ErrName, func() { c.Slab = "a234567890123" }},
		step{api.ErrName, func() { c.Slab = "a b" }},
		step{api.ErrName, func() { c.Slab = "a-4567890-Z2" }},
		step{api.ErrShape, func() { c.Areas = nil }},
		step{api.ErrShape, func() { c.Lengths, c.Areas = make([]int, 7), make([]int, 8) }},
		step{api.ErrShape, func() { c.Areas = make([]int, 6) }},
		step{api.ErrShape, func() { c.Areas = make([]int, 7) }},
		step{api.ErrLarge, func() { c.Lengths, c.Areas = numbers(0, 1), numbers(1, 1) }},
		step{api.ErrRange, func() { c.Lengths[0], c.Areas[0] = 20000, 0 }},
		step{api.ErrRange, func() { c.Areas[0], c.Lengths[1] = 1000, 20001 }},
		step{api.ErrRange, func() { c.Lengths[1], c.Areas[1] = 1, 1001 }},
		step{api.ErrRange, func() { c.Areas[1], c.Lengths[1] = 1, wrong }},
		step{api.ErrRange, func() { c.Lengths[1], c.Areas[1] = 1, math.MaxInt }},
		step{api.ErrRange, func() { c.Areas[1] = 1 }},
		step{api.ErrLarge, func() { c.Steps = c.Steps[1:] }},
		step{api.ErrKind, func() { c.Steps = nil }})
}

// TestP9_1StepErrors mends the second one of three steps, of which the last one is wrong,
// too.
func TestP9_1StepErrors(t *testing.T) {
	c := exampleCourse()
	x := &api.TraceStep{}
	call := func() api.Errno {
		c.Steps = []api.TraceStep{pass(10, 10), *x, {Kind: 3}}
		i, e := trace.CheckCourse(c)
		if e == api.ErrKind && i == 2 {
			return api.OK
		}
		if i != 1 {
			t.Error("index", i, e)
		}
		return e
	}
	*x = api.TraceStep{Kind: api.TraceKinds, Areas: numbers(0), From: 1, To: -1}
	wantErrors(t, call,
		step{api.ErrKind, func() { x.Kind = -1 }},
		step{api.ErrKind, func() { x.Kind = math.MaxInt }},
		step{api.ErrKind, func() { x.Kind = api.TracePass }},
		step{api.ErrForm, func() { x.From = 0 }},
		step{api.ErrForm, func() { x.To = 0 }},
		step{api.ErrShape, func() { x.Areas = nil }},
		step{api.ErrShape, func() { x.Areas = numbers(0, 10, 10) }},
		step{api.ErrShape, func() { x.Areas = numbers(0, 10) }},
		step{api.ErrRange, func() { x.Areas = numbers(10, 1001) }},
		step{api.ErrRange, func() { x.Areas = numbers(math.MinInt, 1) }},
		step{api.ErrRange, func() { x.Areas = numbers(1000, 1) }})
	*x = api.TraceStep{Kind: api.TraceCut, Areas: numbers(10), From: 1000001, To: -1}
	wantErrors(t, call,
		step{api.ErrForm, func() { x.Areas = []int{} }},
		step{api.ErrRange, func() { x.From = -1 }},
		step{api.ErrRange, func() { x.From = math.MaxInt }},
		step{api.ErrRange, func() { x.From = 1000000 }},
		step{api.ErrRange, func() { x.To = math.MinInt }},
		step{api.ErrRange, func() { x.To = 1000001 }},
		step{api.ErrRange, func() { x.To = 1000000 }},
		step{api.ErrOrder, func() { x.From = 6002 }},
		step{api.ErrMissing, func() { x.To = 6002 }},
		step{api.ErrOrder, func() { x.To = 0 }},
		step{api.ErrOrder, func() { x.From, x.To = 6000, 6001 }},
		step{api.ErrMissing, func() { x.From, x.To = 0, 6001 }},
		step{api.ErrMissing, func() { x.To = 6000 }})
}

// TestP9_1Limits has courses at the limits, and beyond them.
func TestP9_1Limits(t *testing.T) {
	for text, want := range map[string]api.Errno{
		"z-zZaA09;1*1": api.OK, "A;1*1": api.OK, "Z;1*1": api.OK, "-a;1*1": api.ErrName, "0a;1*1": api.ErrName, "a_;1*1": api.ErrName, "a`;1*1": api.ErrName, "a{;1*1": api.ErrName, "a@;1*1": api.ErrName, "a[;1*1": api.ErrName, "a/;1*1": api.ErrName, "a:;1*1": api.ErrName, "\u00e4;1*1": api.ErrName,
		"a;1*1": api.OK, "a;20000*1000": api.OK, "a;1*1,1*1,1*1,1*1,1*1,1*1": api.OK, "a;1*1,1*1,1*1,1*1,1*1,1*1,1*1": api.ErrLarge,
		"a;1*1" + strings.Repeat(";p 1", 10): api.OK, "a;1*1" + strings.Repeat(";p 1", 11): api.ErrLarge, "a;1*1" + strings.Repeat(";c 0 1", 10): api.OK,
		"a;1*1;p 1000": api.OK, "a;1*1;p 1001": api.ErrRange, "a;1*1;p 0": api.ErrRange,
		"a;20000*1000;p 1;c 999999 1000000": api.OK, "a;20000*1000;p 1;c 999999 1000001": api.ErrRange, "a;20000*1000;p 1;c 1000001 1000002": api.ErrRange,
		// 10 is not on the strip whose length is 10 - 1/3, and on that of 10 it is.
		"a;29*1;p 3;c 0 10": api.ErrMissing, "a;29*1;p 3;c 0 9": api.OK, "a;30*1;p 3;c 0 10": api.OK, "a;1*1;p 2;c 0 1": api.ErrMissing,
		// The number of sections is that before the step.
		"a;10*1,10*1,10*1;c 10 20;p 1": api.OK, "a;10*1,10*1,10*1;c 10 20;p 1,1": api.ErrShape, "a;10*1,10*1,10*1;c 9 20;p 1,1": api.OK, "a;10*1,10*1,10*1;c 9 21;p 1,1,1": api.OK, "a;10*1,10*1,10*1;c 9 21;p 1,1": api.ErrShape, "a;10*1;c 0 5;c 0 6": api.ErrMissing,
	} {
		if _, e := trace.ParseCourse(text); e != want {
			t.Errorf("%s: %v in place of %v", text, e, want)
		}
	}
	c := longest()
	i, e := trace.CheckCourse(c)
	wantSame(t, "the longest course", i, e, 0, api.OK)
	l, e := trace.LengthAfter(c, api.MaxTraceSteps)
	wantSame(t, "its length", l, e, whole(120000000), api.OK)
}

// TestP9_1Parts has strips whose parts are as great as they may be, and greater ones.
func TestP9_1Parts(t *testing.T) {
	for text, want := range map[string]struct {
		index int
		e     api.Errno
	}{
		// The strips are 999999999/988027, 1000000000/988027 and 1000000001/988027 long.
		"a;2395*421,782*1;p 997,991":  {0, api.OK},
		"a;13071*77,2599*1;p 997,991": {0, api.OK},
		"a;19777*51,452*1;p 997,991":  {0, api.ErrLarge},
		// The lengths of the sections are small, but their ends are not.
		"a;20000*1000,20000*1;p 1,47":                 {0, api.OK},
		"a;20000*1000,20000*1;p 1,53":                 {0, api.ErrLarge},
		"a;1*1,1*1,1*1;p 999,1000,997":                {0, api.OK},
		"a;1*1,1*1,1*1,1*1;p 1,1,1,1;p 2,997,991,983": {1, api.ErrLarge},
		"a;1*1,1*1,1*1,1*1;c 0 3;p 997,991,983":       {0, api.OK},
		// The ends of the sections are small, but the length of the last one is not.
		"a;1*1,1*1,3527*703;p 997,991,991":          {0, api.OK},
		"a;1*1,1*1,3527*703;p 997,991,991;c 0 1012": {0, api.OK},
		"a;1*1,1*1,3527*703;p 997,991,991;c 0 1013": {1, api.ErrLarge},
	} {
		c := parsedByHand(text)
		i, e := trace.CheckCourse(c)
		wantSame(t, text, i, e, want.index, want.e)
	}
}

// parsedByHand is a course whose string ParseCourse may refuse for an error of the course.
func parsedByHand(text string) api.TraceCourse {
	parts := strings.Split(text, ";")
	c := api.TraceCourse{Slab: parts[0]}
	for _, word := range strings.Split(parts[1], ",") {
		length, area, _ := strings.Cut(word, "*")
		c.Lengths, c.Areas = append(c.Lengths, atoi(length)), append(c.Areas, atoi(area))
	}
	for _, part := range parts[2:] {
		words := strings.FieldsFunc(part[2:], func(c rune) bool { return c == ' ' || c == ',' })
		var l []int
		for _, word := range words {
			l = append(l, atoi(word))
		}
		if part[0] == 'p' {
			c.Steps = append(c.Steps, pass(l...))
		} else {
			c.Steps = append(c.Steps, cut(l[0], l[1]))
		}
	}
	return c
}

func atoi(word string) int {
	n := 0
	for _, c := range word {
		n = 10*n + int(c-'0')
	}
	return n
}

func TestP9_1Steps(t *testing.T) {
	c := exampleCourse()
	for _, k := range numbers(-1, 3, math.MinInt, math.MaxInt) {
		s, e := trace.StripAfter(c, k)
		wantSame(t, "StripAfter", s, e, api.TraceStrip{}, api.ErrRange)
		l, e := trace.LengthAfter(c, k)
		wantSame(t, "LengthAfter", l, e, api.Frac{}, api.ErrRange)
		v, e := trace.VolumeAfter(c, k)
		wantSame(t, "VolumeAfter", v, e, api.Frac{}, api.ErrRange)
		c.Slab = ""
		s, e = trace.StripAfter(c, k)
		wantSame(t, "StripAfter", s, e, api.TraceStrip{}, api.ErrName)
		l, e = trace.LengthAfter(c, k)
		wantSame(t, "LengthAfter", l, e, api.Frac{}, api.ErrName)
		v, e = trace.VolumeAfter(c, k)
		wantSame(t, "VolumeAfter", v, e, api.Frac{}, api.ErrName)
		c.Slab = "s1"
	}
}

// TestP9_1EdgeCases are those of the chapter that concern strips.
func TestP9_1EdgeCases(t *testing.T) {
	for text, want := range map[string]api.TraceStrip{
		"a;7*3,5*2":                 strip(section(whole(7), 3), section(whole(5), 2)),
		"a;7*3,5*2;p 3,2":           strip(section(whole(7), 3), section(whole(5), 2)),
		"a;7*3,5*2;p 6,3":           strip(section(frac(7, 2), 6), section(frac(10, 3), 3)),
		"a;7*3,5*2;c 0 12":          strip(section(whole(7), 3), section(whole(5), 2)),
		"a;7*3,5*2;c 0 7":           strip(section(whole(7), 3)),
		"a;7*3,5*2;c 7 12":          strip(section(whole(5), 2)),
		"a;7*3,5*2;c 6 8":           strip(section(whole(1), 3), section(whole(1), 2)),
		"a;7*3,5*2;c 8 9":           strip(section(whole(1), 2)),
		"a;7*3,5*2,4*2;c 7 12":      strip(section(whole(5), 2)),
		"a;7*3,5*2;p 2,2;c 10 11":   strip(section(frac(1, 2), 2), section(frac(1, 2), 2)),
		"a;7*3,5*2;p 2,2;c 1 15":    strip(section(frac(19, 2), 2), section(frac(9, 2), 2)),
		"a;7*3,5*2;p 2,2;c 0 15":    strip(section(frac(21, 2), 2), section(frac(9, 2), 2)),
		"a;7*3,5*2;p 2,2;c 11 15":   strip(section(whole(4), 2)),
		"a;7*3,5*2;p 2,2;c 0 10":    strip(section(whole(10), 2)),
		"a;7*3,5*2;p 2,2;c 0 1;p 9": strip(section(frac(2, 9), 9)),
	} {
		c := mustParse(t, text)
		s, e := trace.StripAfter(c, len(c.Steps))
		wantSame(t, text, s, e, want, api.OK)
	}
}

// TestP9_1LargeVolume has a cut in the second section, which begins at 1/97, or at 1/49.
func TestP9_1LargeVolume(t *testing.T) {
	c := mustParse(t, "a;1*1,20000*1000;p 97,20;c 0 1000000")
	v, e := trace.VolumeAfter(c, 1)
	wantSame(t, "VolumeAfter the pass", v, e, whole(20000001), api.OK)
	v, e = trace.VolumeAfter(c, 2)
	wantSame(t, "VolumeAfter the cut", v, e, api.Frac{}, api.ErrLarge)
	c.Steps[0].Areas[0] = 49
	v, e = trace.VolumeAfter(c, 2)
	wantSame(t, "VolumeAfter another pass", v, e, frac(980000029, 49), api.OK)
}

// TestP9_1ByHand compares strips of random courses, and the courses whose last step leaves
// large parts.
func TestP9_1ByHand(t *testing.T) {
	rnd := rand.New(rand.NewSource(91))
	seen := map[string]int{}
	for range 3000 {
		c := randomCourse(rnd)
		i, e := trace.CheckCourse(c)
		wantSame(t, "CheckCourse", i, e, 0, api.OK)
		for k := range len(c.Steps) + 1 {
			compareStrips(t, c, k, seen)
		}
		n := len(c.Steps)
		if n == api.MaxTraceSteps {
			continue
		}
		c.Steps = append(c.Steps, randomStep(rnd, stripByHand(c, n), anyArea(rnd)))
		want, at := stripByHand(c, n+1).partsByHand(), 0
		if want != api.OK {
			at = n
			seen["large"]++
		}
		i, e = trace.CheckCourse(c)
		wantSame(t, "CheckCourse", i, e, at, want)
	}
	wantSeen(t, seen, 5, "large volume")
	wantSeen(t, seen, 150, "large", "single", "several", "cut", "whole", "fraction")
}

func compareStrips(t *testing.T, c api.TraceCourse, k int, seen map[string]int) {
	t.Helper()
	s := stripByHand(c, k)
	got, e := trace.StripAfter(c, k)
	var want api.TraceStrip
	for i, x := range s.lengths {
		length, _ := fracByHand(x)
		want.Sections = append(want.Sections, section(length, s.areas[i]))
	}
	wantSame(t, "StripAfter", got, e, want, api.OK)
	length, e := fracByHand(s.length())
	l, f := trace.LengthAfter(c, k)
	wantSame(t, "LengthAfter", l, f, length, e)
	volume, e := fracByHand(s.volume())
	v, f := trace.VolumeAfter(c, k)
	wantSame(t, "VolumeAfter", v, f, volume, e)
	switch {
	case e == api.ErrLarge:
		seen["large volume"]++
	case volume.Den > 1:
		seen["fraction"]++
	default:
		seen["whole"]++
	}
	if len(s.areas) == 1 {
		seen["single"]++
	} else {
		seen["several"]++
	}
	if k > 0 && c.Steps[k-1].Kind == api.TraceCut {
		seen["cut"]++
	}
}

func TestP9_8Volume(t *testing.T) {
	rnd := rand.New(rand.NewSource(98))
	seen := map[int]int{}
	for range 2000 {
		c := randomCourse(rnd)
		for k, x := range c.Steps {
			before, wrong := trace.VolumeAfter(c, k)
			after, e := trace.VolumeAfter(c, k+1)
			if x.Kind == api.TracePass && (before != after || wrong != e) {
				t.Fatal("a pass changes the volume", c, k)
			}
			if wrong != api.OK || e != api.OK {
				continue
			}
			if isLess(ratOf(before), ratOf(after)) {
				t.Fatal("a cut increases the volume", c, k)
			}
			seen[x.Kind]++
		}
	}
	wantSeen(t, seen, 500, api.TracePass, api.TraceCut)
}
