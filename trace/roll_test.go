package trace_test

import (
	"fmt"
	"math"
	"math/big"
	"math/rand"
	"slices"
	"strings"
	"testing"

	"cobble/api"
	"cobble/trace"
)

// exampleRolls are those of the example 6.
func exampleRolls() []api.TraceRoll {
	return []api.TraceRoll{roll("r1", 1, 600), roll("r2", 1, 700), roll("r3", 0, 400)}
}

// placesByHand are the positions of marks on the strip after a number of steps.
func placesByHand(c api.TraceCourse, x api.TraceMarks, steps int) []*big.Rat {
	var l []*big.Rat
	for _, at := range x.Marks {
		l = append(l, movedByHand(c, rat(at, 1), len(c.Steps), steps))
	}
	return l
}

// isNear tells whether a number differs from a multiple of a circumference by at most so
// much.
func isNear(x *big.Rat, circumference, most int) bool {
	c := rat(circumference, 1)
	below := product(c, rat(floor(quotient(x, c)), 1))
	for _, multiple := range []*big.Rat{below, sum(below, c)} {
		if d := difference(x, multiple); d.Abs(d).Cmp(rat(most, 1)) <= 0 {
			return true
		}
	}
	return false
}

// explainsByHand looks for a number o. If there is one, then there is one from which a mark
// differs by the tolerance.
func explainsByHand(places []*big.Rat, circumference, tolerance int) bool {
	for _, place := range places {
		o := difference(place, rat(tolerance, 1))
		if !slices.ContainsFunc(places, func(p *big.Rat) bool { return !isNear(difference(p, o), circumference, tolerance) }) {
			return true
		}
	}
	return len(places) == 0
}

// pairByHand are the first two marks that contradict a roll, and whether there are any.
func pairByHand(places []*big.Rat, circumference, tolerance int) ([2]int, bool) {
	for i, p := range places {
		for j := i + 1; j < len(places); j++ {
			if !isNear(difference(places[j], p), circumference, 2*tolerance) {
				return [2]int{i, j}, true
			}
		}
	}
	return [2]int{}, false
}

func TestP9_4Example(t *testing.T) {
	c, m, rolls := exampleCourse(), exampleMarks(), exampleRolls()
	names, e := trace.RollsOf(c, m, rolls)
	wantSame(t, "RollsOf", names, e, []string{"r1"}, api.OK)
	pair, e := trace.RollPair(c, m, rolls[0])
	wantSame(t, "RollPair", pair, e, [2]int{}, api.ErrNone)
	pair, e = trace.RollPair(c, m, rolls[1])
	wantSame(t, "RollPair", pair, e, [2]int{0, 1}, api.OK)
	pair, e = trace.RollPair(c, m, rolls[2])
	wantSame(t, "RollPair", pair, e, [2]int{0, 2}, api.OK)
}

// TestP9_4Tolerance has marks whose distance differs from a multiple by twice the tolerance,
// and by more.
func TestP9_4Tolerance(t *testing.T) {
	c := mustParse(t, "a;20000*1")
	for distance, want := range map[int]api.Errno{
		1000: api.ErrNone, 1010: api.ErrNone, 1011: api.OK, 990: api.ErrNone, 989: api.OK, 500: api.OK, 10: api.ErrNone, 11: api.OK, 1: api.ErrNone, 5010: api.ErrNone, 5011: api.OK, 4989: api.OK, 4990: api.ErrNone,
	} {
		for _, first := range numbers(0, 1, 77) {
			pair, e := trace.RollPair(c, marks(5, first, first+distance), roll("a", 0, 1000))
			if e != want || e == api.OK && pair != [2]int{0, 1} {
				t.Error(distance, pair, e)
			}
			names, e := trace.RollsOf(c, marks(5, first, first+distance), []api.TraceRoll{roll("a", 0, 1000)})
			if e != api.OK || (len(names) == 1) != (want == api.ErrNone) {
				t.Error(distance, names, e)
			}
		}
	}
	for _, x := range []struct {
		m    api.TraceMarks
		want [2]int
	}{
		{marks(0, 0, 10, 21, 30, 41), [2]int{0, 2}}, {marks(0, 1, 10, 20, 30, 41), [2]int{0, 1}}, {marks(1, 0, 12, 18), [2]int{1, 2}}, {marks(1, 0, 12, 8), [2]int{}},
		{marks(1, 0, 11, 12, 20, 28), [2]int{1, 4}},
	} {
		pair, e := trace.RollPair(c, x.m, roll("a", 0, 10))
		if pair != x.want || (e == api.OK) != (pair != [2]int{}) {
			t.Error(x.m, pair, e)
		}
	}
}

func TestP9_4EdgeCases(t *testing.T) {
	c, rolls := exampleCourse(), exampleRolls()
	for _, m := range []api.TraceMarks{marks(5), marks(0), marks(5, 0), marks(5, 4000), marks(66, 1234)} {
		names, e := trace.RollsOf(c, m, rolls)
		wantSame(t, "RollsOf", names, e, []string{"r1", "r2", "r3"}, api.OK)
		pair, e := trace.RollPair(c, m, rolls[1])
		wantSame(t, "RollPair", pair, e, [2]int{}, api.ErrNone)
	}
	names, e := trace.RollsOf(c, exampleMarks(), nil)
	wantSame(t, "RollsOf no rolls", names, e, []string(nil), api.OK)
	names, e = trace.RollsOf(c, marks(5, 100, 100), rolls)
	wantSame(t, "RollsOf the same mark", names, e, []string(nil), api.ErrOrder)
	names, e = trace.RollsOf(c, marks(5), []api.TraceRoll{rolls[2], rolls[0]})
	wantSame(t, "RollsOf in another order", names, e, []string{"r3", "r1"}, api.OK)
}

func TestP9_4MarkErrors(t *testing.T) {
	c := exampleCourse()
	m, r := marks(-1, make([]int, 21)...), roll("1", -1, 0)
	c.Slab = ""
	call := func() api.Errno {
		pair, e := trace.RollPair(c, m, r)
		names, f := trace.RollsOf(c, m, make([]api.TraceRoll, 13))
		if e != api.OK && pair != [2]int{} || f != api.OK && names != nil {
			t.Error(pair, names, e, f)
		}
		if e == api.ErrName && f == api.ErrFull {
			return api.OK // all marks are mended
		}
		if e != f {
			t.Error(e, f)
		}
		return e
	}
	wantErrors(t, call,
		step{api.ErrName, func() { c.Slab = "s1" }},
		step{api.ErrLarge, func() { m.Marks = numbers(-1, -1) }},
		step{api.ErrMissing, func() { m.Marks[0] = 4001 }},
		step{api.ErrMissing, func() { m.Marks[0] = math.MaxInt }},
		step{api.ErrMissing, func() { m.Marks[0] = math.MinInt }},
		step{api.ErrMissing, func() { m.Marks[0] = 5 }},
		step{api.ErrMissing, func() { m.Marks[1] = 4 }},
		step{api.ErrOrder, func() { m.Marks[1] = 5 }},
		step{api.ErrOrder, func() { m.Marks = numbers(5, 6, 4, 4001) }},
		step{api.ErrOrder, func() { m.Marks[2] = 4000 }},
		step{api.ErrMissing, func() { m.Marks = m.Marks[:3] }},
		step{api.ErrRange, func() { m.Tolerance = 1001 }},
		step{api.ErrRange, func() { m.Tolerance = math.MinInt }},
		step{api.ErrRange, func() { m.Tolerance = math.MaxInt }},
		step{api.ErrRange, func() { m.Tolerance = 1000 }})
	m.Marks = nil
	for i := range 20 {
		m.Marks = append(m.Marks, 200*i)
	}
	if e := call(); e != api.OK {
		t.Error("as many marks as there may be", e)
	}
}

func TestP9_4RollErrors(t *testing.T) {
	c, m := exampleCourse(), exampleMarks()
	r := roll("1", -1, 0)
	call := func() api.Errno {
		pair, e := trace.RollPair(c, m, r)
		names, f := trace.RollsOf(c, m, []api.TraceRoll{roll("a", 0, 1000), r, roll("", 0, 0)})
		if pair != [2]int{} || names != nil {
			t.Error(pair, names, e, f)
		}
		if e == api.ErrNone && f == api.ErrName {
			return api.OK // the second roll is mended
		}
		if e != f {
			t.Error(e, f)
		}
		return e
	}
	wantErrors(t, call,
		step{api.ErrName, func() { r.Name = "" }},
		step{api.ErrName, func() { r.Name = "a b" }},
		step{api.ErrName, func() { r.Name = strings.Repeat("b", 13) }},
		step{api.ErrName, func() { r.Name = "b" }},
		step{api.ErrRange, func() { r.Step = 3 }},
		step{api.ErrRange, func() { r.Step = math.MaxInt }},
		step{api.ErrRange, func() { r.Step = 1 }},
		step{api.ErrRange, func() { r.Circumference = 1000001 }},
		step{api.ErrRange, func() { r.Circumference = math.MinInt }},
		step{api.ErrRange, func() { r.Circumference = 1 }},
		step{api.ErrBreak, func() { r.Circumference = 30 }},
		step{api.ErrBreak, func() { r.Circumference = 600 }})
	r = roll("a", 1, 600)
	if _, e := trace.RollsOf(c, m, []api.TraceRoll{roll("b", 0, 1000), roll("a", 0, 1000), r}); e != api.ErrExists {
		t.Error("the same name", e)
	}
	if _, e := trace.RollsOf(c, m, []api.TraceRoll{roll("a", 0, 1000), roll("a", 0, 30)}); e != api.ErrBreak {
		t.Error("the same name of a wrong roll", e)
	}
	m.Tolerance = 0
	for circumference, want := range map[int]api.Errno{1: api.ErrNone, 1000000: api.OK} {
		if _, e := trace.RollPair(c, m, roll("a", 2, circumference)); e != want {
			t.Error(circumference, e)
		}
	}
	m.Tolerance = 1000
	for circumference, want := range map[int]api.Errno{6000: api.ErrBreak, 6001: api.OK} {
		if _, e := trace.RollPair(c, m, roll("a", 2, circumference)); e != want {
			t.Error(circumference, e)
		}
	}
	var rolls []api.TraceRoll
	for i := range api.MaxTraceRolls {
		rolls = append(rolls, roll(fmt.Sprint("r", i), i%3, 7000+i))
	}
	if _, e := trace.RollsOf(c, m, rolls); e != api.OK {
		t.Error("as many rolls as there may be", e)
	}
	if _, e := trace.RollsOf(c, m, append(rolls, api.TraceRoll{})); e != api.ErrFull {
		t.Error("one more", e)
	}
}

// randomMarks are marks on the coil, many of them at multiples of a circumference.
func randomMarks(rnd *rand.Rand, c api.TraceCourse, circumference, tolerance int) api.TraceMarks {
	length := floor(stripByHand(c, len(c.Steps)).length())
	var l []int
	first := rnd.Intn(length + 1)
	for range rnd.Intn(api.MaxTraceMarks + 1) {
		at := first + circumference*rnd.Intn(length/circumference+1) + rnd.Intn(2*tolerance+1) - tolerance
		if rnd.Intn(30) == 0 {
			at = rnd.Intn(length + 1)
		}
		if at >= 0 && at <= length {
			l = append(l, at)
		}
	}
	slices.Sort(l)
	return marks(tolerance, slices.Compact(l)...)
}

func TestP9_4ByHand(t *testing.T) {
	rnd := rand.New(rand.NewSource(94))
	seen := map[string]int{}
	for range 1000 {
		c := randomCourse(rnd)
		tolerance := rnd.Intn(oneOf(rnd, 1, 5, 20))
		circumference := 6*tolerance + 1 + rnd.Intn(oneOf(rnd, 20, 100, 1000))
		m := randomMarks(rnd, c, circumference, tolerance)
		var rolls []api.TraceRoll
		var want []string
		for i := range 4 {
			r := roll(fmt.Sprint("r", i), rnd.Intn(len(c.Steps)+1), 6*tolerance+1+rnd.Intn(100))
			if i == 0 {
				r = roll("r0", len(c.Steps), circumference)
			}
			rolls = append(rolls, r)
			places := placesByHand(c, m, r.Step)
			if explainsByHand(places, r.Circumference, tolerance) {
				want = append(want, r.Name)
			}
			pair, is := pairByHand(places, r.Circumference, tolerance)
			wrong := api.OK
			if !is {
				wrong = api.ErrNone
			}
			got, e := trace.RollPair(c, m, r)
			wantSame(t, "RollPair", got, e, pair, wrong)
			seen[fmt.Sprint(is, " ", min(len(m.Marks), 3))]++
		}
		names, e := trace.RollsOf(c, m, rolls)
		wantSame(t, "RollsOf", names, e, want, api.OK)
	}
	wantSeen(t, seen, 20, "false 0", "false 1", "false 2", "false 3", "true 2", "true 3")
}

func TestP9_12RejectedByTwoMarks(t *testing.T) {
	rnd := rand.New(rand.NewSource(912))
	seen := map[bool]int{}
	for range 1500 {
		c := randomCourse(rnd)
		tolerance := rnd.Intn(10)
		r := roll("r", rnd.Intn(len(c.Steps)+1), 6*tolerance+1+rnd.Intn(50))
		m := randomMarks(rnd, c, r.Circumference, tolerance)
		names, e := trace.RollsOf(c, m, []api.TraceRoll{r})
		pair, wrong := trace.RollPair(c, m, r)
		if e != api.OK || (len(names) == 0) != (wrong == api.OK) {
			t.Fatal(c, m, r, names, e, wrong)
		}
		seen[len(names) == 0]++
		if wrong != api.OK {
			continue
		}
		places := placesByHand(c, m, r.Step)
		if d := difference(places[pair[1]], places[pair[0]]); isNear(d, r.Circumference, 2*tolerance) {
			t.Fatal(c, m, r, pair, d)
		}
	}
	wantSeen(t, seen, 200, true, false)
}
