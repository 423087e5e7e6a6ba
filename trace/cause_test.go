package trace_test

import (
	"fmt"
	"math"
	"math/rand"
	"slices"
	"strings"
	"testing"

	"cobble/api"
	"cobble/trace"
)

// predictsByHand looks at one place after another at which a cause is said to make
// defects.
func predictsByHand(c api.TraceCourse, a api.TraceCause, r api.TraceReading) bool {
	if a.Step > r.Step {
		return false
	}
	place := movedByHand(c, rat(r.At, 1), r.Step, a.Step)
	for from, to := a.From, a.To; !isLess(place, rat(from, 1)); from, to = from+a.Period, to+a.Period {
		if isWithin(place, rat(from, 1), rat(to, 1)) {
			return true
		}
		if a.Period == 0 {
			return false
		}
	}
	return false
}

// setPredictsByHand tells whether the causes of a set predict a defect.
func setPredictsByHand(c api.TraceCourse, l []api.TraceCause, set []int, r api.TraceReading) bool {
	return slices.ContainsFunc(set, func(i int) bool { return predictsByHand(c, l[i], r) })
}

func all(l []api.TraceCause) []int {
	var set []int
	for i := range l {
		set = append(set, i)
	}
	return set
}

// randomCauses are valid causes, many of which make defects on their strips.
func randomCauses(rnd *rand.Rand, c api.TraceCourse, n int) []api.TraceCause {
	var l []api.TraceCause
	for i := range n {
		k := rnd.Intn(len(c.Steps) + 1)
		from := min(positionOn(rnd, stripByHand(c, k)), api.MaxTracePosition)
		to := min(from+rnd.Intn(oneOf(rnd, 1, 10, 1000)), api.MaxTracePosition)
		a := cause(fmt.Sprint("c", i), k, from, to, 0)
		if rnd.Intn(2) == 0 {
			a.Period = min(to-from+1+rnd.Intn(oneOf(rnd, 3, 30, 1000)), api.MaxTracePosition)
		}
		if rnd.Intn(3) == 0 {
			a.To, a.From = a.To-a.From, 0
		}
		l = append(l, a)
	}
	return l
}

// meetingReading is a reading, often at a place at which a cause makes defects, or next to
// one.
func meetingReading(rnd *rand.Rand, c api.TraceCourse, l []api.TraceCause) api.TraceReading {
	r := randomReading(rnd, c)
	if len(l) == 0 || rnd.Intn(3) == 0 {
		return r
	}
	a := oneOf(rnd, l...)
	place := oneOf(rnd, a.From, a.To) + a.Period*rnd.Intn(4)
	if s := stripByHand(c, a.Step); s.isOn(place) {
		steps := a.Step + rnd.Intn(len(c.Steps)-a.Step+1)
		if moved := movedByHand(c, rat(place, 1), a.Step, steps); moved != nil {
			at := floor(moved) + rnd.Intn(3) - 1
			if stripByHand(c, steps).isOn(at) {
				return reading(steps, at, r.Present)
			}
		}
	}
	return r
}

func TestP9_5CheckCauses(t *testing.T) {
	c := exampleCourse()
	c.Steps[1].Kind = 7
	l := slices.Repeat([]api.TraceCause{cause("1", -1, -1, -2, -1)}, 6)
	index := 0
	call := func() api.Errno {
		i, e := trace.CheckCauses(c, l)
		if e != api.OK && i != index {
			t.Error("index", i, e)
		}
		if is, f := trace.Predicts(c, l, reading(9, 0, true)); f != e && e != api.OK || is {
			t.Error(is, f)
		}
		if i, f := trace.Contradiction(c, l, make([]api.TraceReading, 11)); f != e && e != api.OK || i != 0 {
			t.Error(i, f)
		}
		return e
	}
	a := &l[0]
	wantErrors(t, call,
		step{api.ErrKind, func() { c.Steps[1].Kind = api.TraceCut }},
		step{api.ErrLarge, func() { l = l[1:]; a = &l[0] }},
		step{api.ErrName, func() { a.Name = "" }},
		step{api.ErrName, func() { a.Name = strings.Repeat("a", 13) }},
		step{api.ErrName, func() { a.Name = "a" }},
		step{api.ErrRange, func() { a.Step = 3 }},
		step{api.ErrRange, func() { a.Step = math.MaxInt }},
		step{api.ErrRange, func() { a.Step = 2 }},
		step{api.ErrRange, func() { a.From = 1000001 }},
		step{api.ErrRange, func() { a.From = math.MinInt }},
		step{api.ErrRange, func() { a.From = 1000000 }},
		step{api.ErrRange, func() { a.To = 1000001 }},
		step{api.ErrRange, func() { a.To = math.MaxInt }},
		step{api.ErrRange, func() { a.To = 999999 }},
		step{api.ErrRange, func() { a.Period = 1000001 }},
		step{api.ErrRange, func() { a.Period = math.MinInt }},
		step{api.ErrRange, func() { a.Period = 1 }},
		step{api.ErrOrder, func() { a.To = 1000000; index = 1 }},
		step{api.ErrName, func() { *a = cause("a", 0, 10, 20, 10); index = 0 }},
		step{api.ErrClash, func() { a.Period = 1 }},
		step{api.ErrClash, func() { a.Period = 11; a, index = &l[1], 1 }},
		step{api.ErrName, func() { a.Name = "a" }},
		step{api.ErrExists, func() { a.Name = "b" }},
		step{api.ErrRange, func() { *a = cause("b", 1, 0, 0, 1); a, index = &l[2], 2 }},
		step{api.ErrName, func() { *a = cause("b", -1, 0, 0, 0) }},
		step{api.ErrExists, func() { *a = cause("B", 0, 1000000, 1000000, 1000000); a, index = &l[4], 3 }},
		step{api.ErrName, func() { l[3] = cause("d", 0, 0, 1000000, 0); index = 4 }},
		step{api.ErrName, func() { *a = cause("a", 2, 7, 7, 0) }},
		step{api.ErrExists, func() { a.Name = "e" }})
}

// TestP9_5CausesByIndex has its index fixed while one cause after another is mended.
func TestP9_5CausesByIndex(t *testing.T) {
	c := exampleCourse()
	for _, x := range []struct {
		l     []api.TraceCause
		index int
		want  api.Errno
	}{
		{nil, 0, api.OK},
		{exampleCauses(), 0, api.OK},
		{[]api.TraceCause{cause("a", 0, 0, 0, 0), cause("b", 0, 5, 4, 0)}, 1, api.ErrOrder},
		{[]api.TraceCause{cause("a", 0, 0, 0, 0), cause("b", 1, 900, 1100, 200)}, 1, api.ErrClash},
		{[]api.TraceCause{cause("a", 0, 0, 0, 0), cause("b", 1, 900, 1100, 201)}, 0, api.OK},
		{[]api.TraceCause{cause("a", 0, 0, 0, 0), cause("b", 0, 0, 0, 0), cause("a", 3, 0, 0, 0)}, 2, api.ErrExists},
		{[]api.TraceCause{cause("a", 0, 0, 0, 0), cause("b", 3, 0, 0, 0), cause("a", 0, 0, 0, 0)}, 1, api.ErrRange},
		{[]api.TraceCause{cause("a", 0, 0, 0, 0), cause("b", 0, -1, 0, 0)}, 1, api.ErrRange},
	} {
		i, e := trace.CheckCauses(c, x.l)
		wantSame(t, "CheckCauses", i, e, x.index, x.want)
	}
}

func TestP9_5Example(t *testing.T) {
	c, l := exampleCourse(), exampleCauses()
	first, second := reading(1, 1000, true), reading(1, 2000, true)
	for _, x := range []struct {
		l    []api.TraceCause
		r    api.TraceReading
		want bool
	}{
		{l[:1], first, true}, {l[:1], second, false}, {l[1:], first, true}, {l[1:], second, true}, {l, first, true}, {l, second, true}, {nil, first, false},
		// The ends of a place belong to it: from 300 to 400 on the slab is from 900 to 1200 after the pass.
		{l[:1], reading(1, 900, true), true}, {l[:1], reading(1, 899, true), false}, {l[:1], reading(1, 1200, false), true}, {l[:1], reading(1, 1201, false), false}, {l[:1], reading(0, 300, false), true}, {l[:1], reading(0, 299, false), false}, {l[:1], reading(0, 400, true), true}, {l[:1], reading(0, 401, true), false},
		{l[1:], reading(1, 899, true), false}, {l[1:], reading(1, 900, true), true}, {l[1:], reading(1, 1100, true), true}, {l[1:], reading(1, 1101, true), false}, {l[1:], reading(1, 1899, true), false}, {l[1:], reading(1, 1900, true), true}, {l[1:], reading(1, 5100, true), true}, {l[1:], reading(1, 5101, true), false}, {l[1:], reading(1, 100, true), false}, {l[1:], reading(1, 0, true), false},
		// A cause of a later step predicts nothing, and one that lies outside of the strip.
		{l[1:], reading(0, 333, true), false}, {l[1:], reading(0, 300, true), false}, {[]api.TraceCause{cause("c", 2, 0, 1000000, 0)}, reading(1, 1500, true), false}, {[]api.TraceCause{cause("c", 1, 6001, 1000000, 0)}, reading(1, 6000, true), false}, {[]api.TraceCause{cause("c", 1, 6000, 1000000, 0)}, reading(1, 6000, true), true},
		// What was read after the cut was at 1000 more before.
		{l[1:], reading(2, 0, true), true}, {l[1:], reading(2, 100, true), true}, {l[1:], reading(2, 101, true), false}, {l[1:], reading(2, 900, true), true},
		// A place without a length.
		{[]api.TraceCause{cause("c", 1, 7, 7, 10)}, reading(1, 57, true), true}, {[]api.TraceCause{cause("c", 1, 7, 7, 10)}, reading(1, 58, true), false}, {[]api.TraceCause{cause("c", 1, 7, 7, 0)}, reading(1, 7, true), true}, {[]api.TraceCause{cause("c", 1, 7, 7, 0)}, reading(1, 17, true), false},
	} {
		is, e := trace.Predicts(c, x.l, x.r)
		if is != x.want || e != api.OK {
			t.Error(x.l, x.r, is, e)
		}
	}
	for _, x := range []struct {
		l    []api.TraceCause
		r    []api.TraceReading
		want int
		e    api.Errno
	}{
		{l, nil, 0, api.ErrNone}, {l, []api.TraceReading{first, second}, 0, api.ErrNone}, {l[:1], []api.TraceReading{first, second}, 1, api.OK}, {l[:1], []api.TraceReading{second, first}, 0, api.OK}, {nil, []api.TraceReading{reading(0, 0, false), reading(1, 0, true)}, 1, api.OK}, {nil, []api.TraceReading{reading(0, 0, false)}, 0, api.ErrNone}, {l, []api.TraceReading{first, second, reading(1, 2000, false), reading(1, 1500, true)}, 2, api.OK},
	} {
		i, e := trace.Contradiction(c, x.l, x.r)
		wantSame(t, "Contradiction", i, e, x.want, x.e)
	}
}

// TestP9_5ReadingErrors has wrong readings in all calls that take some.
func TestP9_5ReadingErrors(t *testing.T) {
	c, l := exampleCourse(), exampleCauses()
	right := reading(1, 1000, true)
	for _, x := range []struct {
		r    []api.TraceReading
		want api.Errno
	}{
		{[]api.TraceReading{reading(-1, 0, true)}, api.ErrRange}, {[]api.TraceReading{reading(3, -1, true)}, api.ErrRange}, {[]api.TraceReading{reading(math.MaxInt, 0, true)}, api.ErrRange}, {[]api.TraceReading{reading(math.MinInt, 0, true)}, api.ErrRange},
		{[]api.TraceReading{reading(0, 1501, true)}, api.ErrMissing}, {[]api.TraceReading{reading(1, 6001, true)}, api.ErrMissing}, {[]api.TraceReading{reading(2, 4001, true)}, api.ErrMissing}, {[]api.TraceReading{reading(2, -1, true)}, api.ErrMissing}, {[]api.TraceReading{reading(2, math.MaxInt, true)}, api.ErrMissing}, {[]api.TraceReading{reading(2, math.MinInt, true)}, api.ErrMissing},
		{[]api.TraceReading{right, reading(2, -1, true), reading(3, 0, true)}, api.ErrMissing}, {[]api.TraceReading{right, reading(3, -1, true), reading(2, -1, true)}, api.ErrRange},
		{slices.Repeat([]api.TraceReading{reading(3, 0, true)}, 11), api.ErrLarge}, {append(slices.Repeat([]api.TraceReading{right}, 9), reading(3, 0, true)), api.ErrRange},
	} {
		i, e := trace.Contradiction(c, l, x.r)
		wantSame(t, "Contradiction", i, e, 0, x.want)
		sets, e := trace.Explanations(c, l, x.r)
		wantSame(t, "Explanations", sets, e, [][]int(nil), x.want)
		set, e := trace.Contradicting(c, l, x.r)
		wantSame(t, "Contradicting", set, e, []int(nil), x.want)
		i, n, e := trace.NextReading(c, l, search(x.r, nil))
		wantSame(t, "NextReading", [2]int{i, n}, e, [2]int{}, x.want)
		i, n, e = trace.NextReading(c, l, search(nil, x.r))
		wantSame(t, "NextReading", [2]int{i, n}, e, [2]int{}, x.want)
		text, e := trace.ReportOf(c, x.r)
		wantSame(t, "ReportOf", text, e, "", x.want)
		if len(x.r) == 1 {
			is, e := trace.Predicts(c, l, x.r[0])
			wantSame(t, "Predicts", is, e, false, x.want)
		}
	}
	ten := slices.Repeat([]api.TraceReading{right}, 10)
	if i, e := trace.Contradiction(c, l, ten); i != 0 || e != api.ErrNone {
		t.Error("as many readings as there may be", i, e)
	}
}

func TestP9_5ByHand(t *testing.T) {
	rnd := rand.New(rand.NewSource(95))
	seen := map[string]int{}
	for range 2000 {
		c := randomCourse(rnd)
		l := randomCauses(rnd, c, rnd.Intn(api.MaxTraceCauses+1))
		if i, e := trace.CheckCauses(c, l); i != 0 || e != api.OK {
			t.Fatal(l, i, e)
		}
		var readings []api.TraceReading
		want, wrong := 0, api.ErrNone
		for i := range rnd.Intn(api.MaxTraceReadings + 1) {
			r := meetingReading(rnd, c, l)
			predicted := setPredictsByHand(c, l, all(l), r)
			is, e := trace.Predicts(c, l, r)
			wantSame(t, "Predicts", is, e, predicted, api.OK)
			seen[fmt.Sprint("predicted ", is)]++
			if rnd.Intn(3) > 0 {
				r.Present = predicted
			}
			if r.Present != predicted && wrong == api.ErrNone {
				want, wrong = i, api.OK
			}
			readings = append(readings, r)
		}
		i, e := trace.Contradiction(c, l, readings)
		wantSame(t, "Contradiction", i, e, want, wrong)
		seen[fmt.Sprint("contradiction ", e == api.OK, min(i, 1))]++
	}
	wantSeen(t, seen, 100, "predicted true", "predicted false", "contradiction false 0", "contradiction true 0", "contradiction true 1")
}
