package trace_test

import (
	"fmt"
	"math/rand"
	"slices"
	"testing"

	"cobble/api"
	"cobble/trace"
)

// subsets are all sets of the numbers from 0 to n - 1, by their size and then in
// lexicographic order.
func subsets(n int) [][]int {
	var l [][]int
	for bits := range 1 << n {
		var set []int
		for i := range n {
			if bits>>i&1 == 1 {
				set = append(set, i)
			}
		}
		l = append(l, set)
	}
	slices.SortFunc(l, func(a, b []int) int {
		if len(a) != len(b) {
			return len(a) - len(b)
		}
		return slices.Compare(a, b)
	})
	return l
}

// situation is what the calls of causes and readings are given, with all predictions.
type situation struct {
	c         api.TraceCourse
	l         []api.TraceCause
	r         []api.TraceReading
	predicted [][]bool // of each reading by each cause
}

func situationOf(c api.TraceCourse, l []api.TraceCause, r []api.TraceReading) situation {
	x := situation{c: c, l: l, r: r}
	for _, one := range r {
		var by []bool
		for _, a := range l {
			by = append(by, predictsByHand(c, a, one))
		}
		x.predicted = append(x.predicted, by)
	}
	return x
}

// agrees tells whether a set of causes agrees with some readings.
func (x situation) agrees(set, readings []int) bool {
	return !slices.ContainsFunc(readings, func(i int) bool {
		return slices.ContainsFunc(set, func(a int) bool { return x.predicted[i][a] }) != x.r[i].Present
	})
}

// explanationsByHand are the sets with the minimum size that agree with some readings.
func (x situation) explanationsByHand(readings []int) [][]int {
	var l [][]int
	for _, set := range subsets(len(x.l)) {
		if x.agrees(set, readings) && (len(l) == 0 || len(set) == len(l[0])) {
			l = append(l, set)
		}
	}
	return l
}

// contradictingByHand is the minimum set of readings without an explanation.
func (x situation) contradictingByHand() []int {
	for _, readings := range subsets(len(x.r)) {
		if len(x.explanationsByHand(readings)) == 0 {
			return readings
		}
	}
	return nil
}

func upTo(n int) []int {
	var l []int
	for i := range n {
		l = append(l, i)
	}
	return l
}

// randomSituation has readings that are often what some of the causes predict.
func randomSituation(rnd *rand.Rand) situation {
	c := randomCourse(rnd)
	l := randomCauses(rnd, c, rnd.Intn(api.MaxTraceCauses+1))
	var made []int
	for i := range l {
		if rnd.Intn(2) == 0 {
			made = append(made, i)
		}
	}
	var readings []api.TraceReading
	change := oneOf(rnd, 3, 10, 1000)
	for range rnd.Intn(api.MaxTraceReadings + 1) {
		r := meetingReading(rnd, c, l)
		r.Present = setPredictsByHand(c, l, made, r) != (rnd.Intn(change) == 0)
		readings = append(readings, r)
	}
	return situationOf(c, l, readings)
}

func TestP9_6Example(t *testing.T) {
	c, l := exampleCourse(), exampleCauses()
	first, second, absent := reading(1, 1000, true), reading(1, 2000, true), reading(1, 2000, false)
	far, clear := reading(1, 1500, true), reading(1, 1500, false)
	for _, x := range []struct {
		r    []api.TraceReading
		want [][]int
		set  []int
	}{
		{nil, [][]int{nil}, nil},
		{[]api.TraceReading{first, second}, [][]int{{1}}, nil},
		{[]api.TraceReading{first, absent}, [][]int{{0}}, nil},
		{[]api.TraceReading{first}, [][]int{{0}, {1}}, nil},
		{[]api.TraceReading{absent}, [][]int{nil}, nil},
		{[]api.TraceReading{clear, clear}, [][]int{nil}, nil},
		{[]api.TraceReading{second, reading(0, 400, true)}, [][]int{{0, 1}}, nil},
		{[]api.TraceReading{first, far}, nil, []int{1}},
		{[]api.TraceReading{second, first, absent}, nil, []int{0, 2}},
		{[]api.TraceReading{second, second, absent, absent}, nil, []int{0, 2}},
		{[]api.TraceReading{clear, first, absent, reading(0, 333, false)}, nil, []int{1, 2, 3}},
		{[]api.TraceReading{second, absent, far, clear, far}, nil, []int{2}},
	} {
		sets, e := trace.Explanations(c, l, x.r)
		wrong, other := api.OK, api.ErrNone
		if x.want == nil {
			wrong, other = api.ErrNone, api.OK
		}
		wantSame(t, "Explanations", sets, e, x.want, wrong)
		set, e := trace.Contradicting(c, l, x.r)
		wantSame(t, "Contradicting", set, e, x.set, other)
	}
	sets, e := trace.Explanations(c, nil, nil)
	wantSame(t, "Explanations without causes", sets, e, [][]int{nil}, api.OK)
	sets, e = trace.Explanations(c, nil, []api.TraceReading{first})
	wantSame(t, "Explanations without causes", sets, e, [][]int(nil), api.ErrNone)
	set, e := trace.Contradicting(c, nil, []api.TraceReading{clear, first, second})
	wantSame(t, "Contradicting without causes", set, e, []int{1}, api.OK)
}

func TestP9_6NextExample(t *testing.T) {
	c, l := exampleCourse(), exampleCauses()
	first, second, far := reading(1, 1000, true), reading(1, 2000, true), reading(1, 1500, true)
	for _, x := range []struct {
		r, candidates []api.TraceReading
		want          [2]int
		e             api.Errno
	}{
		{[]api.TraceReading{first}, []api.TraceReading{first, second}, [2]int{1, 1}, api.OK},
		{[]api.TraceReading{first}, []api.TraceReading{reading(1, 1000, false), reading(1, 2000, false)}, [2]int{1, 1}, api.OK},
		{[]api.TraceReading{first}, []api.TraceReading{far, first}, [2]int{0, 2}, api.OK},
		{[]api.TraceReading{first}, []api.TraceReading{far, second, second}, [2]int{1, 1}, api.OK},
		{[]api.TraceReading{first, second}, []api.TraceReading{far, second}, [2]int{0, 1}, api.OK},
		{nil, []api.TraceReading{second}, [2]int{0, 1}, api.OK},
		{[]api.TraceReading{far}, []api.TraceReading{second}, [2]int{}, api.ErrNone},
		{[]api.TraceReading{first}, nil, [2]int{}, api.ErrShape},
		{[]api.TraceReading{far}, nil, [2]int{}, api.ErrShape},
		{[]api.TraceReading{far}, []api.TraceReading{reading(1, 6001, true)}, [2]int{}, api.ErrMissing},
		{[]api.TraceReading{reading(2, 4001, true)}, []api.TraceReading{reading(3, 0, true)}, [2]int{}, api.ErrMissing},
		{[]api.TraceReading{reading(2, 4001, true)}, nil, [2]int{}, api.ErrMissing},
		{[]api.TraceReading{first}, slices.Repeat([]api.TraceReading{second}, 11), [2]int{}, api.ErrLarge},
		{[]api.TraceReading{first}, slices.Repeat([]api.TraceReading{second}, 10), [2]int{0, 1}, api.OK},
	} {
		i, n, e := trace.NextReading(c, l, search(x.r, x.candidates))
		wantSame(t, "NextReading", [2]int{i, n}, e, x.want, x.e)
	}
	l[0].From = 401
	i, n, e := trace.NextReading(c, l, search(nil, nil))
	wantSame(t, "NextReading", [2]int{i, n}, e, [2]int{}, api.ErrOrder)
	c.Slab = ""
	i, n, e = trace.NextReading(c, l, search(nil, nil))
	wantSame(t, "NextReading", [2]int{i, n}, e, [2]int{}, api.ErrName)
}

// TestP9_6Order has five causes of the same defect, and explanations of two of them.
func TestP9_6Order(t *testing.T) {
	c := mustParse(t, "a;1000*1")
	l := []api.TraceCause{cause("e", 0, 0, 5, 0), cause("d", 0, 5, 9, 0), cause("c", 0, 0, 5, 0), cause("b", 0, 5, 9, 0), cause("a", 0, 20, 20, 0)}
	ends := []api.TraceReading{reading(0, 1, true), reading(0, 8, true)}
	sets, e := trace.Explanations(c, l, ends)
	wantSame(t, "Explanations", sets, e, [][]int{{0, 1}, {0, 3}, {1, 2}, {2, 3}}, api.OK)
	sets, e = trace.Explanations(c, l, append(ends, reading(0, 20, true)))
	wantSame(t, "Explanations", sets, e, [][]int{{0, 1, 4}, {0, 3, 4}, {1, 2, 4}, {2, 3, 4}}, api.OK)
	sets, e = trace.Explanations(c, l, []api.TraceReading{reading(0, 5, true)})
	wantSame(t, "Explanations", sets, e, [][]int{{0}, {1}, {2}, {3}}, api.OK)
	i, n, e := trace.NextReading(c, l, search([]api.TraceReading{reading(0, 5, true)}, []api.TraceReading{reading(0, 20, true), reading(0, 1, true), reading(0, 8, false)}))
	wantSame(t, "NextReading", [2]int{i, n}, e, [2]int{1, 2}, api.OK)
}

func TestP9_6ByHand(t *testing.T) {
	rnd := rand.New(rand.NewSource(96))
	seen := map[string]int{}
	for range 1500 {
		x := randomSituation(rnd)
		sets := x.explanationsByHand(upTo(len(x.r)))
		wrong, other := api.OK, api.ErrNone
		var readings []int
		if len(sets) == 0 {
			wrong, other, readings = api.ErrNone, api.OK, x.contradictingByHand()
		}
		got, e := trace.Explanations(x.c, x.l, x.r)
		wantSame(t, "Explanations", got, e, sets, wrong)
		set, e := trace.Contradicting(x.c, x.l, x.r)
		wantSame(t, "Contradicting", set, e, readings, other)
		seen[fmt.Sprint("explanations ", min(len(sets), 3))]++
		seen[fmt.Sprint("readings ", min(len(readings), 3))]++
		if len(sets) > 0 {
			seen[fmt.Sprint("causes ", min(len(sets[0]), 2))]++
		}
		compareNext(t, rnd, x, sets, seen)
	}
	wantSeen(t, seen, 5, "explanations 3")
	wantSeen(t, seen, 20, "explanations 0", "explanations 1", "explanations 2", "readings 0", "readings 1", "readings 2", "causes 0", "causes 1", "causes 2", "next 0", "next 1", "even")
}

// compareNext compares the next reading of several candidates.
func compareNext(t *testing.T, rnd *rand.Rand, x situation, sets [][]int, seen map[string]int) {
	t.Helper()
	var candidates []api.TraceReading
	for range 1 + rnd.Intn(api.MaxTraceReadings) {
		candidates = append(candidates, meetingReading(rnd, x.c, x.l))
	}
	best, fewest := 0, len(sets)
	for i, r := range candidates {
		predicting, not := 0, 0
		for _, set := range sets {
			if setPredictsByHand(x.c, x.l, set, r) {
				predicting++
			} else {
				not++
			}
		}
		if n := max(predicting, not); n < fewest {
			best, fewest = i, n
		}
	}
	wrong := api.OK
	if len(sets) == 0 {
		best, fewest, wrong = 0, 0, api.ErrNone
	}
	i, n, e := trace.NextReading(x.c, x.l, search(x.r, candidates))
	wantSame(t, "NextReading", [2]int{i, n}, e, [2]int{best, fewest}, wrong)
	seen[fmt.Sprint("next ", min(i, 1))]++
	if len(sets) > 1 && n < len(sets) {
		seen["even"]++
	}
}

func TestP9_13AllEvidence(t *testing.T) {
	rnd := rand.New(rand.NewSource(913))
	seen := map[string]int{}
	for range 1500 {
		x := randomSituation(rnd)
		sets, e := trace.Explanations(x.c, x.l, x.r)
		readings, f := trace.Contradicting(x.c, x.l, x.r)
		if (e == api.OK) == (f == api.OK) {
			t.Fatal("both, or none", x, e, f)
		}
		for _, set := range sets {
			var causes []api.TraceCause
			for _, i := range set {
				causes = append(causes, x.l[i])
			}
			i, e := trace.Contradiction(x.c, causes, x.r)
			wantSame(t, "Contradiction", i, e, 0, api.ErrNone)
			for _, smaller := range subsets(len(x.l)) {
				if len(smaller) < len(set) && x.agrees(smaller, upTo(len(x.r))) {
					t.Fatal("a smaller set agrees", x, smaller, set)
				}
			}
			seen["explained"]++
		}
		for i := range readings {
			var others []api.TraceReading
			for j, at := range readings {
				if j != i {
					others = append(others, x.r[at])
				}
			}
			if _, e := trace.Explanations(x.c, x.l, others); e != api.OK {
				t.Fatal("not minimum", x, readings, i, e)
			}
			seen["contradicted"]++
		}
	}
	wantSeen(t, seen, 200, "explained", "contradicted")
}
