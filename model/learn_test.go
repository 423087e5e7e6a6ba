package model_test

import (
	"math"
	"math/rand"
	"slices"
	"strconv"
	"testing"

	"cobble/api"
	"cobble/model"
)

// evenRules have the value 200 everywhere: at the steps 2 and 3 the forces are 200
// and 250.
func evenRules() api.ModelRules {
	r := exampleRules()
	r.Table = knots(0, 200)
	return r
}

func TestP4_4Learned(t *testing.T) {
	still := exampleRules()
	still.Steps = 0
	for i, x := range []struct {
		r        api.ModelRules
		at, want int
		c        api.ModelCoil
	}{
		{exampleRules(), 0, 1, firstCoil()}, {exampleRules(), 1, 2, firstCoil()}, {exampleRules(), 2, 3, firstCoil()}, {exampleRules(), 3, 3, firstCoil()}, {exampleRules(), 4, 3, firstCoil()},
		{exampleRules(), 2, 1, secondCoil()}, {exampleRules(), 3, 2, secondCoil()}, {exampleRules(), 1, 1, secondCoil()}, {exampleRules(), 0, 1, secondCoil()},
		// with Steps 0 only the version grows
		{still, 0, 0, firstCoil()},
		// two neighbouring steps agree as well: the present one stays, if it is one of them
		{evenRules(), 2, 2, coil("a", 1, 225)}, {evenRules(), 3, 3, coil("a", 1, 225)}, {evenRules(), 1, 2, coil("a", 1, 225)}, {evenRules(), 4, 3, coil("a", 1, 225)},
		{evenRules(), 2, 2, coil("a", 1, 200, 2, 250)}, {evenRules(), 3, 3, coil("a", 1, 200, 2, 250)},
		// the ends of the steps
		{evenRules(), 0, 0, coil("a", 1, 0)}, {evenRules(), 4, 4, coil("a", 1, 100000)}, {evenRules(), 1, 0, coil("a", 1, 0)}, {evenRules(), 3, 4, coil("a", 1, 100000)},
	} {
		if c, e := model.Learned(x.r, correction(6, x.at), x.c); e != api.OK || c != correction(7, x.want) {
			t.Error(i, c, e)
		}
	}
	for c, want := range correctionCases() {
		if c.Version == api.MaxModelVersion && want == api.OK {
			want = api.ErrLarge
		}
		if _, e := model.Learned(exampleRules(), c, firstCoil()); e != want {
			t.Error(c, e)
		}
	}
	if c, e := model.Learned(exampleRules(), correction(api.MaxModelVersion-1, 3), firstCoil()); e != api.OK || c != correction(api.MaxModelVersion, 3) {
		t.Error(c, e)
	}
}

func TestP4_4LearnedErrorsInTheirOrder(t *testing.T) {
	r, c, x := exampleRules(), correction(api.MaxModelVersion+1, 5), coil("?")
	r.Table[0].Value = 0
	wantErrors(t, func() api.Errno { _, e := model.Learned(r, c, x); return e },
		step{api.ErrRange, func() { r.Table[0].Value, r.Lowest.Den = 1, 0 }},
		step{api.ErrForm, func() { r.Lowest.Den = 1 }},
		step{api.ErrRange, func() { c.Version-- }},
		step{api.ErrRange, func() { c.At-- }},
		step{api.ErrName, func() { x.Name = "a" }},
		step{api.ErrShape, func() { x = coil("a", 1, -1) }},
		step{api.ErrRange, func() { x = firstCoil() }},
		step{api.ErrLarge, func() { c.Version-- }})
}

func TestP4_4BestFor(t *testing.T) {
	still := exampleRules()
	still.Steps = 0
	for i, x := range []struct {
		r    api.ModelRules
		c    api.ModelCoil
		want int
	}{
		{exampleRules(), firstCoil(), 3}, {exampleRules(), secondCoil(), 1}, {still, firstCoil(), 0},
		{evenRules(), coil("a", 1, 225), 2}, {evenRules(), coil("a", 1, 200, 2, 250), 2}, {evenRules(), coil("a", 1, 0), 0}, {evenRules(), coil("a", 1, 100000), 4}, {evenRules(), coil("a", 1, 200), 2},
		{evenRules(), coil("a", 1, 100, 2, 300), 0}, {steadyRules(10, 1, 1, 900), coil("a", 1, 9009), 900}, {steadyRules(10, 1, 1, 900), coil("a", 1, 9001), 899},
	} {
		if c, e := model.BestFor(x.r, x.c); e != api.OK || c != correction(0, x.want) {
			t.Error(i, c, e)
		}
	}
	r, c := exampleRules(), coil("?")
	r.Steps = 901
	wantErrors(t, func() api.Errno { _, e := model.BestFor(r, c); return e },
		step{api.ErrRange, func() { r.Steps = 900 }},
		step{api.ErrName, func() { c.Name = "a" }},
		step{api.ErrShape, func() { c.Readings = make([]api.ModelReading, 13) }},
		step{api.ErrLarge, func() { c = coil("a", -1, 0) }},
		step{api.ErrRange, func() { c = coil("a", 1, 0) }})
}

func TestP4_4LearnedByHand(t *testing.T) {
	rnd := rand.New(rand.NewSource(44))
	moves := map[int]int{}
	for range 1500 {
		r := smallRules(rnd)
		if rnd.Intn(4) == 0 {
			r = randomRules(rnd, api.MaxModelValue, api.MaxModelGain, 30)
		}
		at, c := randomFrom(rnd, 0, r.Steps), randomCoil(rnd, r, "a")
		l := mustLearn(t, r, correction(rnd.Intn(100), at), c)
		if l.At != learnedByHand(r, at, c) {
			t.Fatal(r, at, c, l)
		}
		moves[l.At-at]++
		if l, e := model.BestFor(r, c); e != api.OK || l != correction(0, bestByHand(r, c)) {
			t.Fatal(r, c, l, e)
		}
	}
	if len(moves) != 3 {
		t.Error("a move is missing", moves)
	}
}

func TestP4_4HistoryOf(t *testing.T) {
	both := coils(firstCoil(), secondCoil())
	for i, x := range []struct {
		from int
		l    []api.ModelCoil
		want []api.ModelCorrection
		made []string
	}{
		{2, both, []api.ModelCorrection{correction(1, 3), correction(2, 2)}, []string{"c1", "c2"}},
		{0, both, []api.ModelCorrection{correction(1, 1), correction(2, 1)}, []string{"c1"}},
		{3, both, []api.ModelCorrection{correction(1, 3), correction(2, 2)}, []string{"c2"}},
		{4, both[:1], []api.ModelCorrection{correction(1, 3)}, []string{"c1"}},
		{1, both[1:], []api.ModelCorrection{correction(1, 1)}, nil},
		{2, nil, nil, nil},
	} {
		if l, e := model.HistoryOf(exampleRules(), correction(0, x.from), x.l); e != api.OK || !slices.Equal(l, x.want) {
			t.Error(i, l, e)
		}
		if l, e := model.MadeBy(exampleRules(), correction(0, x.from), x.l); e != api.OK || !slices.Equal(l, x.made) {
			t.Error(i, l, e)
		}
	}
	if l, e := model.HistoryOf(exampleRules(), correction(api.MaxModelVersion-2, 2), both); e != api.OK || l[1] != correction(api.MaxModelVersion, 2) {
		t.Error(l, e)
	}
	if l, e := model.HistoryOf(exampleRules(), correction(api.MaxModelVersion, 2), nil); e != api.OK || len(l) != 0 {
		t.Error("no version grows without coils", l, e)
	}
}

func TestP4_4Without(t *testing.T) {
	both := coils(firstCoil(), secondCoil())
	for i, x := range []struct {
		l     []api.ModelCoil
		name  string
		want  api.ModelCorrection
		wrong api.Errno
	}{
		{both, "c1", correction(6, 1), api.OK}, {both, "c2", correction(6, 3), api.OK}, {both[:1], "c1", correction(5, 2), api.OK},
		{both, "c3", api.ModelCorrection{}, api.ErrMissing}, {both, "C1", api.ModelCorrection{}, api.ErrMissing}, {both, "c", api.ModelCorrection{}, api.ErrMissing}, {nil, "c1", api.ModelCorrection{}, api.ErrMissing}, {both[1:], "c1", api.ModelCorrection{}, api.ErrMissing},
		{nil, "", api.ModelCorrection{}, api.ErrName},
	} {
		if c, e := model.Without(exampleRules(), correction(5, 2), x.l, x.name); c != x.want || e != x.wrong {
			t.Error(i, c, e)
		}
	}
	for name, is := range nameCases() {
		if _, e := model.Without(exampleRules(), correction(5, 2), both, name); (e == api.ErrMissing) != is || (e == api.ErrName) == is {
			t.Errorf("%q: %v", name, e)
		}
	}
}

// historyCalls are the functions of a history; the name is used by the last one
// alone.
func historyCalls(r *api.ModelRules, c *api.ModelCorrection, l *[]api.ModelCoil, name *string) []func() api.Errno {
	return []func() api.Errno{
		func() api.Errno { _, e := model.HistoryOf(*r, *c, *l); return e },
		func() api.Errno { _, e := model.MadeBy(*r, *c, *l); return e },
		func() api.Errno { _, e := model.Without(*r, *c, *l, *name); return e },
	}
}

func TestP4_4HistoryErrorsInTheirOrder(t *testing.T) {
	for at := range 3 {
		r, c, l, name := exampleRules(), correction(-1, 5), make([]api.ModelCoil, 13), "?"
		r.Steps = 901
		call := historyCalls(&r, &c, &l, &name)[at]
		steps := []step{
			{api.ErrRange, func() { r.Steps = 4 }},
			{api.ErrRange, func() { c.Version = api.MaxModelVersion - 1 }},
			{api.ErrRange, func() { c.At = 4 }},
			{api.ErrLarge, func() { l = coils(coil("-"), coil("a"), coil("a")) }},
			{api.ErrName, func() { l[0].Name = "a" }},
			{api.ErrShape, func() { l[0] = coil("a", -1, 0) }},
			{api.ErrRange, func() { l[0].Readings[0].X = 0 }},
			{api.ErrShape, func() { l[1].Readings = make([]api.ModelReading, 13) }},
			{api.ErrLarge, func() { l[1] = coil("a", 1, 1) }},
			{api.ErrExists, func() { l[1].Name = "b" }},
			{api.ErrShape, func() { l[2] = coil("b", 1, 1) }},
			{api.ErrExists, func() { l[2].Name = "A" }},
			{api.ErrLarge, func() { c.Version = api.MaxModelVersion - 2 }},
			{api.ErrLarge, func() { c.Version-- }},
		}
		if at == 2 {
			steps = append(steps, step{api.ErrName, func() { name = "c" }}, step{api.ErrMissing, func() { name = "b" }})
		}
		wantErrors(t, call, steps...)
	}
}

func TestP4_4Forgotten(t *testing.T) {
	for i, x := range []struct{ at, toward, steps, want int }{
		{4, 1, 2, 2}, {4, 1, 3, 1}, {4, 1, 4, 1}, {4, 1, 900, 1}, {4, 1, 0, 4}, {4, 1, 1, 3},
		{0, 4, 1, 1}, {0, 4, 3, 3}, {0, 4, 900, 4}, {0, 4, 0, 0}, {3, 0, 2, 1},
		// towards its own step
		{2, 2, 0, 2}, {2, 2, 1, 2}, {2, 2, 900, 2}, {0, 0, 5, 0}, {4, 4, 5, 4},
	} {
		if c, e := model.Forgotten(exampleRules(), correction(8, x.at), x.toward, x.steps); e != api.OK || c != correction(9, x.want) {
			t.Error(i, c, e)
		}
	}
	for i, x := range []struct {
		c             api.ModelCorrection
		toward, steps int
		want          api.Errno
	}{
		{correction(0, 1), -1, 0, api.ErrRange}, {correction(0, 1), 5, 0, api.ErrRange}, {correction(0, 1), 0, -1, api.ErrRange}, {correction(0, 1), 0, 901, api.ErrRange},
		{correction(0, 1), math.MinInt, 0, api.ErrRange}, {correction(0, 1), math.MaxInt, 0, api.ErrRange}, {correction(0, 1), 0, math.MinInt, api.ErrRange}, {correction(0, 1), 0, math.MaxInt, api.ErrRange},
		{correction(1000000, 1), 0, 1, api.ErrLarge}, {correction(1000000, 1), 1, 0, api.ErrLarge}, {correction(999999, 1), 0, 1, api.OK}, {correction(1000000, 1), 5, 1, api.ErrRange}, {correction(1000000, 1), 4, 901, api.ErrRange},
		{correction(1000001, 1), 0, 1, api.ErrRange}, {correction(0, 5), 0, 1, api.ErrRange}, {correction(-1, 0), 0, 1, api.ErrRange}, {correction(0, -1), 0, 1, api.ErrRange},
	} {
		if _, e := model.Forgotten(exampleRules(), x.c, x.toward, x.steps); e != x.want {
			t.Error(i, e)
		}
	}
	broken := exampleRules()
	broken.Table = nil
	if _, e := model.Forgotten(broken, correction(-1, -1), -1, -1); e != api.ErrShape {
		t.Error(e)
	}
}

func TestP4_4HistoriesByHand(t *testing.T) {
	rnd := rand.New(rand.NewSource(440))
	for range 600 {
		r := smallRules(rnd)
		at, l := randomFrom(rnd, 0, r.Steps), randomCoils(rnd, r, api.MaxModelCoils)
		history, e := model.HistoryOf(r, correction(30, at), l)
		made, f := model.MadeBy(r, correction(30, at), l)
		if e != api.OK || f != api.OK || len(history) != len(l) {
			t.Fatal(r, at, l, e, f)
		}
		var names []string
		before := at
		for i, want := range historyByHand(r, at, l) {
			if history[i] != correction(31+i, want) {
				t.Fatal(r, at, l, i, history, want)
			}
			if want != before {
				names = append(names, l[i].Name)
			}
			before = want
		}
		if !slices.Equal(made, names) {
			t.Fatal(r, at, l, made, names)
		}
		for i, c := range l {
			rest := slices.Concat(l[:i], l[i+1:])
			want := correction(30+len(rest), at)
			if steps := historyByHand(r, at, rest); len(steps) > 0 {
				want.At = steps[len(steps)-1]
			}
			if x, e := model.Without(r, correction(30, at), l, c.Name); e != api.OK || x != want {
				t.Fatal(r, at, l, c.Name, x, e, want)
			}
		}
	}
}

// TestP4_8NeverWorse compares the losses before and after, and learns at the best
// correction.
func TestP4_8NeverWorse(t *testing.T) {
	rnd := rand.New(rand.NewSource(48))
	better := 0
	for range 1500 {
		r := smallRules(rnd)
		c := correction(0, randomFrom(rnd, 0, r.Steps))
		x := randomCoil(rnd, r, "a")
		before, e := model.LossOf(r, c, x)
		after, f := model.LossOf(r, mustLearn(t, r, c, x), x)
		if e != api.OK || f != api.OK || ratio(after).Cmp(ratio(before)) > 0 {
			t.Fatal(r, c, x, before, after, e, f)
		}
		if after != before {
			better++
		}
		best, e := model.BestFor(r, x)
		if e != api.OK || mustLearn(t, r, best, x).At != best.At {
			t.Fatal(r, x, best, e)
		}
	}
	if better < 100 {
		t.Error("nothing was learned", better)
	}
}

func TestP4_9GetsThere(t *testing.T) {
	rnd := rand.New(rand.NewSource(49))
	for range 400 {
		r := randomRules(rnd, 100, 10, 25)
		c, x := correction(0, randomFrom(rnd, 0, r.Steps)), randomCoil(rnd, r, "a")
		for range r.Steps {
			c = mustLearn(t, r, c, x)
		}
		best := lossByHand(r, bestByHand(r, x), x)
		if lossByHand(r, c.At, x).Cmp(best) != 0 {
			t.Fatal("not there", r, c, x)
		}
		for range 3 {
			if next := mustLearn(t, r, c, x); next.At != c.At {
				t.Fatal("does not stay", r, c, x, next)
			}
		}
	}
}

// TestP4_9TheWholeWay learns from one end of all steps to the other one.
func TestP4_9TheWholeWay(t *testing.T) {
	r := steadyRules(10, 1, 1, api.MaxModelGain)
	for from, force := range map[int]int{0: 100000, api.MaxModelGain: 0} {
		c := correction(0, from)
		for range api.MaxModelGain {
			c = mustLearn(t, r, c, coil("a", 5, force))
		}
		if c != correction(api.MaxModelGain, api.MaxModelGain-from) {
			t.Error(from, c)
		}
	}
}

func TestP4_10Traced(t *testing.T) {
	rnd := rand.New(rand.NewSource(410))
	kinds := map[string]int{}
	for range 1000 {
		r := smallRules(rnd)
		c, l := correction(0, randomFrom(rnd, 0, r.Steps)), randomCoils(rnd, r, 6)
		made, e := model.MadeBy(r, c, l)
		if e != api.OK {
			t.Fatal(e)
		}
		last := c
		if history, e := model.HistoryOf(r, c, l); e == api.OK && len(history) > 0 {
			last = history[len(history)-1]
		}
		if len(made) == 0 && last.At != c.At {
			t.Fatal("made by no coil", r, c, l, last)
		}
		for _, x := range l {
			other, e := model.Without(r, c, l, x.Name)
			is := slices.Contains(made, x.Name)
			if e != api.OK || !is && other.At != last.At {
				t.Fatal(r, c, l, x.Name, other, last, e)
			}
			kinds[strconv.FormatBool(is)+" "+strconv.FormatBool(other.At == last.At)]++
		}
	}
	for _, kind := range []string{"false true", "true true", "true false"} {
		if kinds[kind] == 0 {
			t.Error("no coil", kind, kinds)
		}
	}
}
