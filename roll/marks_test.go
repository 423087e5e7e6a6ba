package roll_test

import (
	"math"
	"math/rand"
	"slices"
	"testing"

	"cobble/api"
	"cobble/roll"
)

// counted are so many positions from 0 on.
func counted(n int) []int {
	var l []int
	for i := range n {
		l = append(l, i)
	}
	return l
}

// markCases are marks, their errors and the indexes of these.
func markCases() []markCase {
	return []markCase{
		{exampleMarks(), 0, api.OK}, {marks(0, 0, 1000000), 0, api.OK}, {marks(10000, 7, 8), 0, api.OK}, {marks(0, counted(30)...), 0, api.OK},
		{marks(0), 0, api.ErrShape}, {marks(0, 7), 0, api.ErrShape}, {api.RollMarks{}, 0, api.ErrShape}, {marks(-1, -1), 0, api.ErrShape}, {marks(0, counted(31)...), 0, api.ErrLarge}, {marks(-1, make([]int, 31)...), 0, api.ErrLarge},
		{marks(-1, 0, 1), 0, api.ErrRange}, {marks(10001, 0, 1), 0, api.ErrRange}, {marks(math.MinInt, 0, 1), 0, api.ErrRange}, {marks(math.MaxInt, 1, 0), 0, api.ErrRange},
		{marks(0, -1, 5), 0, api.ErrRange}, {marks(0, 0, 1000001), 1, api.ErrRange}, {marks(0, 0, 1, math.MinInt), 2, api.ErrRange}, {marks(0, 0, math.MaxInt, 1), 1, api.ErrRange}, {marks(0, 5, -1), 1, api.ErrRange},
		{marks(0, 1, 0), 1, api.ErrOrder}, {marks(0, 1, 1), 1, api.ErrOrder}, {marks(0, 1, 2, 2, 3), 2, api.ErrOrder}, {marks(0, 1, 2, 1, -1), 2, api.ErrOrder}, {marks(0, 1, 2, -1, 1), 2, api.ErrRange}, {marks(0, 0, 1000000, 1000001), 2, api.ErrRange},
	}
}

type markCase struct {
	m    api.RollMarks
	want int
	err  api.Errno
}

func TestP6_5CheckMarks(t *testing.T) {
	for i, x := range markCases() {
		if at, e := roll.CheckMarks(x.m); at != x.want || e != x.err {
			t.Error(i, at, e)
		}
		if x.err == api.OK {
			continue
		}
		_, a := roll.PhaseOf(x.m, 0)
		_, b := roll.ExpectedOf(x.m, 0)
		_, c := roll.ContradictingIn(x.m, 0)
		_, f := roll.CausesOf(x.m, make([]int, 21))
		if !alike([]api.Errno{a, b, c, f}, slices.Repeat([]api.Errno{x.err}, 4)) {
			t.Error(i, a, b, c, f)
		}
	}
	m := api.RollMarks{Tolerance: -1}
	wantErrors(t, func() api.Errno { _, e := roll.CheckMarks(m); return e },
		step{api.ErrShape, func() { m.Positions = make([]int, 31) }},
		step{api.ErrLarge, func() { m.Positions = numbers(-1, -1, 1000001) }},
		step{api.ErrRange, func() { m.Tolerance = 10000 }},
		step{api.ErrRange, func() { m.Positions[0] = 0 }},
		step{api.ErrRange, func() { m.Positions[1] = 0 }},
		step{api.ErrOrder, func() { m.Positions[1] = 1000000 }},
		step{api.ErrRange, func() { m.Positions[2] = 1000000 }},
		step{api.ErrOrder, func() { m.Positions[1] = 1 }})
}

// TestP6_5Circumferences has marks that are so near each other that they lie in the
// tolerance, or, without one, a multiple of all circumferences apart.
func TestP6_5Circumferences(t *testing.T) {
	for i, x := range []struct {
		m             api.RollMarks
		circumference int
		want          api.Errno
	}{
		{marks(0, 0, 10000), 1, api.OK}, {marks(0, 0, 10000), 10000, api.OK}, {marks(1, 7, 8), 5, api.OK}, {marks(2, 7, 8), 9, api.OK}, {marks(2499, 7, 8), 9997, api.OK}, {marks(2499, 7, 8), 10000, api.OK},
		{marks(0, 0, 10000), 0, api.ErrRange}, {marks(0, 0, 10000), -1, api.ErrRange}, {marks(0, 0, 10000), 10001, api.ErrRange}, {marks(0, 0, 10000), math.MinInt, api.ErrRange}, {marks(0, 0, 10000), math.MaxInt, api.ErrRange}, {marks(10000, 7, 8), 10001, api.ErrRange}, {marks(10000, 7, 8), 0, api.ErrRange},
		{marks(1, 7, 8), 4, api.ErrBreak}, {marks(2, 7, 8), 8, api.ErrBreak}, {marks(2, 7, 8), 1, api.ErrBreak}, {marks(2499, 7, 8), 9996, api.ErrBreak}, {marks(2500, 7, 8), 10000, api.ErrBreak}, {marks(10000, 7, 8), 10000, api.ErrBreak},
	} {
		contradicted := x.want
		if x.want == api.OK {
			contradicted = api.ErrNone
		}
		_, a := roll.PhaseOf(x.m, x.circumference)
		_, b := roll.ExpectedOf(x.m, x.circumference)
		_, c := roll.CausesOf(x.m, numbers(x.circumference))
		_, f := roll.ContradictingIn(x.m, x.circumference)
		if !alike([]api.Errno{a, b, c, f}, []api.Errno{x.want, x.want, x.want, contradicted}) {
			t.Error(i, a, b, c, f)
		}
	}
}

func TestP6_5PhaseOf(t *testing.T) {
	for i, x := range []struct {
		m             api.RollMarks
		circumference int
		want          api.Range
		err           api.Errno
	}{
		{exampleMarks(), 1250, ends(100, 102), api.OK}, {exampleMarks(), 625, ends(100, 102), api.OK}, {exampleMarks(), 2500, api.Range{}, api.ErrNone},
		// the phases go around
		{marks(2, 0, 10), 10, ends(8, 12), api.OK}, {marks(2, 0, 11), 10, ends(9, 12), api.OK}, {marks(2, 1, 11), 10, ends(9, 13), api.OK}, {marks(2, 2, 12), 10, ends(0, 4), api.OK}, {marks(2, 9, 19), 10, ends(7, 11), api.OK}, {marks(2, 9, 20), 10, ends(8, 11), api.OK}, {marks(2, 0, 19), 10, ends(8, 11), api.OK}, {marks(2, 0, 16), 10, ends(8, 8), api.OK}, {marks(2, 0, 15), 10, api.Range{}, api.ErrNone}, {marks(2, 0, 14), 10, ends(2, 2), api.OK},
		// without a tolerance there is at most one
		{marks(0, 7, 17), 10, ends(7, 7), api.OK}, {marks(0, 17, 27), 10, ends(7, 7), api.OK}, {marks(0, 7, 18), 10, api.Range{}, api.ErrNone}, {marks(0, 3, 5), 1, ends(0, 0), api.OK}, {marks(0, 3, 5), 2, ends(1, 1), api.OK}, {marks(0, 3, 6), 2, api.Range{}, api.ErrNone}, {marks(0, 0, 1000000), 10000, ends(0, 0), api.OK}, {marks(0, 1, 1000000), 9999, api.Range{}, api.ErrNone},
		// greater than the distance of the marks: they must be close to each other
		{marks(3, 50, 56), 100, ends(53, 53), api.OK}, {marks(3, 50, 57), 100, api.Range{}, api.ErrNone}, {marks(3, 97, 103), 100, ends(0, 0), api.OK}, {marks(3, 98, 100), 100, ends(97, 101), api.OK},
		// each two have a phase, all three do not
		{marks(1, 0, 2, 4), 5, api.Range{}, api.ErrNone}, {marks(1, 0, 2), 5, ends(1, 1), api.OK}, {marks(1, 2, 4), 5, ends(3, 3), api.OK}, {marks(1, 0, 4), 5, ends(4, 5), api.OK},
		{marks(2499, 0, 4998), 9997, ends(2499, 2499), api.OK}, {marks(2499, 0, 4999), 9997, ends(7498, 7498), api.OK}, {marks(2499, 0, 4999), 10000, api.Range{}, api.ErrNone},
	} {
		if r, e := roll.PhaseOf(x.m, x.circumference); r != x.want || e != x.err {
			t.Error(i, r, e)
		}
	}
}

func TestP6_5ExpectedOf(t *testing.T) {
	for i, x := range []struct {
		m             api.RollMarks
		circumference int
		want          []int
		err           api.Errno
	}{
		{exampleMarks(), 625, numbers(725, 1975), api.OK}, {exampleMarks(), 1250, nil, api.OK}, {exampleMarks(), 2500, nil, api.ErrNone}, {exampleMarks(), 8, nil, api.ErrBreak},
		{marks(0, 0, 4), 1, numbers(1, 2, 3), api.OK}, {marks(0, 5, 9), 2, numbers(7), api.OK}, {marks(0, 0, 1000000), 10000, hundreds(10000), api.OK},
		// from the first position to the last one
		{marks(0, 12, 42), 10, numbers(22, 32), api.OK}, {marks(1, 12, 41), 10, numbers(21, 31), api.OK}, {marks(1, 12, 43), 10, numbers(22, 32), api.OK}, {marks(1, 12, 15, 41), 10, nil, api.ErrNone},
		// a mark up to twice the tolerance away is there
		{marks(2, 100, 120, 136), 20, nil, api.OK}, {marks(2, 100, 116, 140), 20, nil, api.OK}, {marks(2, 100, 104, 140), 20, numbers(122), api.OK}, {marks(2, 104, 160), 20, numbers(122, 142), api.OK},
		// the mark expected at Lo, if the first position is after it
		{marks(2, 100, 140), 20, numbers(118), api.OK}, {marks(1, 100, 101, 121), 20, nil, api.OK},
	} {
		if l, e := roll.ExpectedOf(x.m, x.circumference); !alike(l, x.want) || e != x.err {
			t.Error(i, l, e)
		}
	}
}

// hundreds are the 99 multiples of a number after 0.
func hundreds(n int) []int {
	var l []int
	for i := range 99 {
		l = append(l, n*(i+1))
	}
	return l
}

func TestP6_5CausesOf(t *testing.T) {
	for i, x := range []struct {
		m              api.RollMarks
		circumferences []int
		want           []int
		err            api.Errno
	}{
		{exampleMarks(), numbers(625, 1250, 2500), numbers(1), api.OK}, {exampleMarks(), nil, nil, api.OK}, {exampleMarks(), numbers(), nil, api.OK}, {exampleMarks(), numbers(1250, 1253, 1254, 1248, 1250, 9), numbers(0, 1, 4), api.OK},
		{marks(0, 0, 1, 2), numbers(1, 2, 1), numbers(0, 2), api.OK}, {marks(0, 0, 1000000), slices.Repeat(numbers(1), 20), nil, api.OK}, {marks(0, 0, 10000), numbers(5000, 10000), numbers(1), api.OK},
		{exampleMarks(), slices.Repeat(numbers(1250), 20), counted(20), api.OK}, {exampleMarks(), slices.Repeat(numbers(1250), 21), nil, api.ErrLarge}, {exampleMarks(), make([]int, 21), nil, api.ErrLarge},
		{exampleMarks(), numbers(0), nil, api.ErrRange}, {exampleMarks(), numbers(1250, 10001), nil, api.ErrRange}, {exampleMarks(), numbers(1250, math.MinInt), nil, api.ErrRange}, {exampleMarks(), numbers(math.MaxInt), nil, api.ErrRange}, {exampleMarks(), numbers(1250, 8), nil, api.ErrBreak}, {exampleMarks(), numbers(2500, 8, 0), nil, api.ErrBreak}, {exampleMarks(), numbers(0, 8), nil, api.ErrRange},
		{marks(0, 1, 1), make([]int, 21), nil, api.ErrOrder},
	} {
		if l, e := roll.CausesOf(x.m, x.circumferences); !alike(l, x.want) || e != x.err {
			t.Error(i, l, e)
		}
	}
}

func TestP6_5ContradictingIn(t *testing.T) {
	for i, x := range []struct {
		m             api.RollMarks
		circumference int
		want          []int
		err           api.Errno
	}{
		{exampleMarks(), 2500, numbers(0, 1), api.OK}, {exampleMarks(), 1250, nil, api.ErrNone}, {exampleMarks(), 625, nil, api.ErrNone}, {exampleMarks(), 8, nil, api.ErrBreak}, {exampleMarks(), 0, nil, api.ErrRange},
		{marks(0, 0, 10, 21, 30, 40), 10, numbers(0, 2), api.OK}, {marks(0, 0, 10, 20, 30, 41), 10, numbers(0, 4), api.OK}, {marks(0, 1, 10, 20), 10, numbers(0, 1), api.OK}, {marks(2, 0, 12, 24, 29), 10, numbers(2, 3), api.OK},
		// each two have a phase: three are needed
		{marks(1, 0, 2, 4), 5, numbers(0, 1, 2), api.OK}, {marks(1, 0, 5, 10, 12, 15, 19), 5, numbers(0, 3, 5), api.OK}, {marks(2, 0, 10, 13, 16), 10, numbers(0, 2, 3), api.OK}, {marks(2, 0, 3, 6), 9, numbers(0, 1, 2), api.OK},
		{marks(0, counted(30)...), 1, nil, api.ErrNone}, {marks(0, counted(30)...), 29, numbers(0, 1), api.OK},
		{marks(2499, slices.Concat(hundreds(9998)[:28], numbers(299937))...), 9998, nil, api.ErrNone},
	} {
		if l, e := roll.ContradictingIn(x.m, x.circumference); !alike(l, x.want) || e != x.err {
			t.Error(i, l, e)
		}
	}
}

// TestP6_5MarksByHand has small numbers, so that all phases and sets can be tried.
func TestP6_5MarksByHand(t *testing.T) {
	rnd := rand.New(rand.NewSource(65))
	explained, sizes, around, caused := map[bool]int{}, map[int]int{}, map[bool]int{}, map[bool]int{}
	for range 5000 {
		tolerance := rnd.Intn(5)
		circumference := 4*tolerance + 1 + rnd.Intn(1+2*tolerance+rnd.Intn(5))
		m := randomMarks(rnd, tolerance, 2+rnd.Intn(4), 60)
		if rnd.Intn(3) == 0 {
			m = recurring(rnd, tolerance, circumference, rnd.Intn(circumference), 2+rnd.Intn(5))
		}
		if _, e := roll.CheckMarks(m); e != api.OK {
			continue
		}
		want := phasesByHand(tolerance, circumference, m.Positions...)
		r, e := roll.PhaseOf(m, circumference)
		is := e == api.OK
		explained[is]++
		if is != (len(want) > 0) || is && (!alike(phasesIn(r, circumference), want) || r.Lo < 0 || r.Lo >= circumference) || !is && e != api.ErrNone {
			t.Fatal(m, circumference, r, e, want)
		}
		if is {
			around[r.Hi >= circumference]++
		}
		wantExpected(t, m, circumference, r, e)
		set, e := roll.ContradictingIn(m, circumference)
		if !alike(set, contradictingByHand(m, circumference)) || is != (e == api.ErrNone) {
			t.Fatal(m, circumference, set, e)
		}
		sizes[len(set)]++
		causes, e := roll.CausesOf(m, numbers(circumference))
		isCause := is && len(missingByHand(m, circumference, r.Lo)) == 0
		caused[isCause]++
		if e != api.OK || isCause != (len(causes) == 1) {
			t.Fatal(m, circumference, causes, e)
		}
	}
	wantSeen(t, explained, 300, true, false)
	wantSeen(t, around, 100, true, false)
	wantSeen(t, caused, 100, true, false)
	wantSeen(t, sizes, 30, 0, 2, 3)
}

// wantExpected wants the missing marks of phases, or their error.
func wantExpected(t *testing.T, m api.RollMarks, circumference int, r api.Range, wrong api.Errno) {
	t.Helper()
	var want []int
	if wrong == api.OK {
		want = missingByHand(m, circumference, r.Lo)
	}
	if l, e := roll.ExpectedOf(m, circumference); !alike(l, want) || e != wrong {
		t.Fatal(m, circumference, l, e, want, wrong)
	}
}

// TestP6_5LongStrips has marks up to the greatest position.
func TestP6_5LongStrips(t *testing.T) {
	rnd := rand.New(rand.NewSource(650))
	for range 300 {
		tolerance := randomFrom(rnd, 0, 30)
		circumference := randomFrom(rnd, 4*tolerance+1, api.MaxRollRound)
		m := recurring(rnd, tolerance, circumference, rnd.Intn(circumference), 1+api.MaxRollMark/circumference)
		if n := len(m.Positions) - api.MaxRollMarks; n > 0 {
			m.Positions = m.Positions[n:]
		}
		if len(m.Positions) < 2 {
			continue
		}
		r, e := roll.PhaseOf(m, circumference)
		if e != api.OK {
			t.Fatal(m, circumference, e)
		}
		wantExpected(t, m, circumference, r, e)
	}
	m := marks(0, 0, api.MaxRollMark)
	if l, e := roll.ExpectedOf(m, 1); len(l) != api.MaxRollMark-1 || e != api.OK {
		t.Error(len(l), e)
	}
}

// isPhase tells whether a phase is one of a range, modulo the circumference.
func isPhase(r api.Range, circumference, phase int) bool {
	return slices.Contains(phasesIn(r, circumference), phase%circumference)
}

func TestP6_12Marks(t *testing.T) {
	rnd := rand.New(rand.NewSource(612))
	tried := 0
	for range 3000 {
		tolerance := randomFrom(rnd, 0, 40)
		circumference := randomFrom(rnd, 4*tolerance+1, 10*tolerance+5)
		phase := rnd.Intn(circumference)
		m := recurring(rnd, tolerance, circumference, phase, 2+rnd.Intn(20))
		if len(m.Positions) < 3 {
			continue
		}
		tried++
		r, e := roll.PhaseOf(m, circumference)
		if e != api.OK || !isPhase(r, circumference, phase) {
			t.Fatal(m, circumference, phase, r, e)
		}
		less := m
		at := rnd.Intn(len(m.Positions))
		less.Positions = slices.Delete(slices.Clone(m.Positions), at, at+1)
		wider, e := roll.PhaseOf(less, circumference)
		if e != api.OK {
			t.Fatal(less, circumference, e)
		}
		for n := r.Lo; n <= r.Hi; n++ {
			if !isPhase(wider, circumference, n) {
				t.Fatal("a phase is lost", m, less, circumference, r, wider)
			}
		}
	}
	if tried < 1000 {
		t.Error("too few marks", tried)
	}
}

func TestP6_13Contradictions(t *testing.T) {
	rnd := rand.New(rand.NewSource(613))
	sizes := map[int]int{}
	for range 3000 {
		tolerance := randomFrom(rnd, 0, 40)
		circumference := randomFrom(rnd, 4*tolerance+1, 6*tolerance+5)
		m := randomMarks(rnd, tolerance, 2+rnd.Intn(7), 5*circumference+10)
		set, e := roll.ContradictingIn(m, circumference)
		if _, wrong := roll.PhaseOf(m, circumference); (e == api.ErrNone) != (wrong == api.OK) {
			t.Fatal(m, circumference, set, e, wrong)
		}
		if e == api.ErrNone {
			continue
		}
		sizes[len(set)]++
		some := api.RollMarks{Tolerance: tolerance}
		for _, i := range set {
			some.Positions = append(some.Positions, m.Positions[i])
		}
		if len(set) < 2 || !slices.IsSorted(set) {
			t.Fatal(m, circumference, set)
		}
		if _, e := roll.PhaseOf(some, circumference); e != api.ErrNone {
			t.Fatal("some phase explains them", m, circumference, set, e)
		}
		for at := range set {
			others := slices.Delete(slices.Clone(some.Positions), at, at+1)
			if len(phasesByHand(tolerance, circumference, others...)) == 0 {
				t.Fatal("fewer contradict", m, circumference, set)
			}
		}
	}
	wantSeen(t, sizes, 30, 2, 3)
}
