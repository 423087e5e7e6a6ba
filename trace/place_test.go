package trace_test

import (
	"math"
	"math/rand"
	"testing"

	"cobble/api"
	"cobble/trace"
)

func TestP9_3PlaceExample(t *testing.T) {
	c := exampleCourse()
	for _, x := range []struct {
		r     api.TraceReading
		steps int
		want  api.Frac
		e     api.Errno
	}{
		{reading(1, 4500, true), 0, whole(1250), api.OK}, {reading(1, 4500, false), 1, whole(4500), api.OK}, {reading(1, 4500, true), 2, whole(3500), api.OK},
		{reading(1, 500, true), 0, frac(500, 3), api.OK}, {reading(1, 500, true), 1, whole(500), api.OK}, {reading(1, 500, false), 2, api.Frac{}, api.ErrNone},
		// The points at the ends of what is kept are kept.
		{reading(1, 1000, true), 2, whole(0), api.OK}, {reading(1, 5000, true), 2, whole(4000), api.OK}, {reading(1, 999, true), 2, api.Frac{}, api.ErrNone}, {reading(1, 5001, true), 2, api.Frac{}, api.ErrNone},
		{reading(2, 0, true), 0, frac(1000, 3), api.OK}, {reading(2, 4000, true), 0, frac(4000, 3), api.OK}, {reading(2, 4000, true), 2, whole(4000), api.OK}, {reading(2, 2000, true), 0, whole(1000), api.OK}, {reading(2, 2001, true), 0, frac(6001, 6), api.OK},
		{reading(0, 0, true), 0, whole(0), api.OK}, {reading(0, 0, true), 1, whole(0), api.OK}, {reading(0, 0, true), 2, api.Frac{}, api.ErrNone}, {reading(0, 1500, true), 1, whole(6000), api.OK}, {reading(0, 1500, true), 2, api.Frac{}, api.ErrNone}, {reading(0, 1000, true), 2, whole(2000), api.OK},
	} {
		f, e := trace.PlaceOf(c, x.r, x.steps)
		wantSame(t, "PlaceOf", f, e, x.want, x.e)
	}
}

func TestP9_3PlaceErrors(t *testing.T) {
	c, r, steps := exampleCourse(), reading(3, -1, true), 3
	c.Areas[1] = 0
	call := func() api.Errno {
		f, e := trace.PlaceOf(c, r, steps)
		if e != api.OK && !alike(f, api.Frac{}) {
			t.Error(f, e)
		}
		return e
	}
	wantErrors(t, call,
		step{api.ErrRange, func() { c.Areas[1] = 60 }},
		step{api.ErrRange, func() { r.Step = -1 }},
		step{api.ErrRange, func() { r.Step = math.MaxInt }},
		step{api.ErrRange, func() { r.Step = math.MinInt }},
		step{api.ErrRange, func() { r.Step = 1 }},
		step{api.ErrMissing, func() { r.At = 6001 }},
		step{api.ErrMissing, func() { r.At = math.MaxInt }},
		step{api.ErrMissing, func() { r.At = math.MinInt }},
		step{api.ErrMissing, func() { r.At = 999 }},
		step{api.ErrRange, func() { steps = -1 }},
		step{api.ErrRange, func() { steps = math.MaxInt }},
		step{api.ErrRange, func() { steps = math.MinInt }},
		step{api.ErrRange, func() { steps = 2 }},
		step{api.ErrNone, func() { r.At = 1000 }})
	// The last position is the greatest whole number that is not beyond the length.
	c = mustParse(t, "a;29*1;p 3")
	for at, want := range map[int]api.Errno{8: api.OK, 9: api.OK, 10: api.ErrMissing} {
		if _, e := trace.PlaceOf(c, reading(1, at, true), 0); e != want {
			t.Error(at, e)
		}
	}
}

// largeText is a course with a point at each whole position behind the first section
// whose position on the slab is a multiple of 1/988027.
const largeText = "a;1*1,20000*997;p 991,1000"

func TestP9_3LargePlaces(t *testing.T) {
	c := mustParse(t, largeText)
	f, e := trace.PlaceOf(c, reading(1, 1008, true), 0)
	wantSame(t, "PlaceOf", f, e, frac(999915027, 988027), api.OK)
	f, e = trace.PlaceOf(c, reading(1, 1009, true), 0)
	wantSame(t, "PlaceOf", f, e, api.Frac{}, api.ErrLarge)
	f, e = trace.PlaceOf(c, reading(1, 1009, true), 1)
	wantSame(t, "PlaceOf", f, e, whole(1009), api.OK)
	report, e := trace.ReportOf(c, []api.TraceReading{reading(0, 1000, true), reading(1, 1009, true)})
	wantSame(t, "ReportOf", report, e, "", api.ErrLarge)
}

func TestP9_3PlacesByHand(t *testing.T) {
	rnd := rand.New(rand.NewSource(93))
	seen := map[api.Errno]int{}
	for range 6000 {
		c := randomCourse(rnd)
		r, steps := randomReading(rnd, c), oneOf(rnd, 0, rnd.Intn(len(c.Steps)+1))
		want, wrong := api.Frac{}, api.ErrNone
		if place := movedByHand(c, rat(r.At, 1), r.Step, steps); place != nil {
			want, wrong = fracByHand(place)
		}
		f, e := trace.PlaceOf(c, r, steps)
		wantSame(t, "PlaceOf", f, e, want, wrong)
		seen[e]++
	}
	wantSeen(t, seen, 20, api.OK, api.ErrNone, api.ErrLarge)
}

func span(lo, hi api.Frac) api.Span {
	return api.Span{Lo: lo, Hi: hi}
}

func TestP9_3PiecesExample(t *testing.T) {
	c := exampleCourse()
	for size, want := range map[int][]api.Span{
		3000: {span(frac(1000, 3), frac(3500, 3)), span(frac(3500, 3), frac(4000, 3))},
		2000: {span(frac(1000, 3), whole(1000)), span(whole(1000), frac(4000, 3))},
		4000: {span(frac(1000, 3), frac(4000, 3))}, 4001: {span(frac(1000, 3), frac(4000, 3))}, api.MaxTracePosition: {span(frac(1000, 3), frac(4000, 3))},
		3999: {span(frac(1000, 3), frac(7999, 6)), span(frac(7999, 6), frac(4000, 3))},
	} {
		l, e := trace.PiecesOf(c, size)
		wantSame(t, "PiecesOf", l, e, want, api.OK)
	}
	for size, want := range map[int]api.Errno{80: api.OK, 79: api.ErrFull, 1: api.ErrFull, 0: api.ErrRange, -1: api.ErrRange, api.MaxTracePosition + 1: api.ErrRange, math.MaxInt: api.ErrRange, math.MinInt: api.ErrRange} {
		l, e := trace.PiecesOf(c, size)
		if e != want || e == api.OK && len(l) != 50 || e != api.OK && l != nil {
			t.Error(size, len(l), e)
		}
	}
	c.Steps[0].Areas[0] = 0
	l, e := trace.PiecesOf(c, 0)
	wantSame(t, "PiecesOf", l, e, []api.Span(nil), api.ErrRange)
	c.Steps[0].Kind = 5
	l, e = trace.PiecesOf(c, 0)
	wantSame(t, "PiecesOf", l, e, []api.Span(nil), api.ErrKind)
	// A length that is no whole number has a shorter last piece, which may be the 51st one.
	for text, want := range map[string]api.Errno{"a;50*1": api.OK, "a;51*1": api.ErrFull, "a;149*1;p 3": api.OK, "a;150*1;p 3": api.OK, "a;151*1;p 3": api.ErrFull} {
		if _, e := trace.PiecesOf(mustParse(t, text), 1); e != want {
			t.Error(text, e)
		}
	}
	// Too many pieces, of which the first ones have large parts, too.
	c = mustParse(t, largeText)
	for size, want := range map[int]api.Errno{398: api.ErrFull, 399: api.ErrLarge, 1009: api.ErrLarge, 20000: api.OK} {
		if _, e := trace.PiecesOf(c, size); e != want {
			t.Error(size, e)
		}
	}
}

// piecesByHand are pieces as results, or the error of their number or parts.
func piecesByHand(c api.TraceCourse, size int) ([]api.Span, api.Errno) {
	n := len(c.Steps)
	length := stripByHand(c, n).length()
	var l []api.Span
	large := false
	for at := 0; isLess(rat(at, 1), length); at += size {
		lo, hi := rat(at, 1), rat(at+size, 1)
		if isLess(length, hi) {
			hi = length
		}
		first, wrong := fracByHand(movedByHand(c, lo, n, 0))
		last, e := fracByHand(movedByHand(c, hi, n, 0))
		large = large || wrong != api.OK || e != api.OK
		l = append(l, span(first, last))
		if len(l) > api.MaxTracePieces {
			return nil, api.ErrFull
		}
	}
	if large {
		return nil, api.ErrLarge
	}
	return l, api.OK
}

func TestP9_3PiecesByHand(t *testing.T) {
	rnd := rand.New(rand.NewSource(933))
	seen := map[api.Errno]int{}
	for range 800 {
		c := randomCourse(rnd)
		length := floor(stripByHand(c, len(c.Steps)).length())
		size := min(1+rnd.Intn(length/oneOf(rnd, 1, 2, 20, 50)+1), api.MaxTracePosition)
		want, wrong := piecesByHand(c, size)
		l, e := trace.PiecesOf(c, size)
		wantSame(t, "PiecesOf", l, e, want, wrong)
		seen[e]++
	}
	wantSeen(t, seen, 10, api.OK, api.ErrFull, api.ErrLarge)
}

func TestP9_10EveryPiece(t *testing.T) {
	rnd := rand.New(rand.NewSource(910))
	seen := map[bool]int{}
	for range 2000 {
		c := randomCourse(rnd)
		n := len(c.Steps)
		length := stripByHand(c, n).length()
		l, e := trace.PiecesOf(c, min(1+rnd.Intn(floor(length)+1), api.MaxTracePosition))
		if e != api.OK {
			continue
		}
		seen[len(l) > 1]++
		for i := range len(l) - 1 {
			if l[i].Hi != l[i+1].Lo {
				t.Fatal("a gap", l)
			}
		}
		first, last := movedByHand(c, rat(0, 1), n, 0), movedByHand(c, length, n, 0)
		if ratOf(l[0].Lo).Cmp(first) != 0 || ratOf(l[len(l)-1].Hi).Cmp(last) != 0 {
			t.Fatal("not all of the coil", l, first, last)
		}
	}
	wantSeen(t, seen, 200, true, false)
}

// TestP9_11BothWays finds points on earlier strips, and those that lie at whole positions
// again from there.
func TestP9_11BothWays(t *testing.T) {
	rnd := rand.New(rand.NewSource(911))
	seen := map[string]int{}
	for range 6000 {
		c := randomCourse(rnd)
		r := randomReading(rnd, c)
		earlier := rnd.Intn(r.Step + 1)
		place, e := trace.PlaceOf(c, r, earlier)
		if e == api.ErrLarge {
			continue
		}
		if e != api.OK {
			t.Fatal("not on an earlier strip", c, r, earlier, e)
		}
		if place.Den == 1 {
			again, e := trace.PlaceOf(c, reading(earlier, place.Num, false), r.Step)
			wantSame(t, "found again", again, e, whole(r.At), api.OK)
			seen["whole"]++
		}
		m, e := trace.MapOf(c, earlier, r.Step)
		if e != api.OK {
			continue
		}
		again, e := trace.ValueAt(m, place)
		wantSame(t, "found by the map", again, e, whole(r.At), api.OK)
		seen["map"]++
	}
	wantSeen(t, seen, 1000, "whole", "map")
}
