package model_test

import (
	"math"
	"math/rand"
	"testing"

	"cobble/api"
	"cobble/model"
)

// TestP4_2RulesLimits sets one part of valid rules at a time.
func TestP4_2RulesLimits(t *testing.T) {
	lowest := func(r *api.ModelRules, f api.Frac) { r.Lowest = f }
	stepOf := func(r *api.ModelRules, f api.Frac) { r.Step = f }
	for i, x := range []struct {
		f    api.Frac
		want api.Errno
	}{
		{frac(1, 1), api.OK}, {frac(900, 1), api.OK}, {frac(1, 900), api.OK}, {frac(899, 900), api.OK}, {frac(900, 899), api.OK}, {frac(6, 35), api.OK},
		{frac(0, 1), api.ErrRange}, {frac(-1, 2), api.ErrRange}, {frac(901, 1), api.ErrRange}, {frac(1, 901), api.ErrRange}, {frac(901, 900), api.ErrRange}, {frac(900, 901), api.ErrRange}, {frac(math.MaxInt, 1), api.ErrRange}, {frac(math.MinInt, 1), api.ErrRange}, {frac(1, math.MaxInt), api.ErrRange}, {frac(math.MinInt, math.MaxInt), api.ErrRange},
		{frac(2, 2), api.ErrForm}, {frac(2, 4), api.ErrForm}, {frac(6, 4), api.ErrForm}, {frac(0, 2), api.ErrForm}, {frac(-2, 4), api.ErrForm}, {frac(1800, 2), api.ErrForm}, {frac(2, 1802), api.ErrForm},
		{frac(1, 0), api.ErrForm}, {frac(0, 0), api.ErrForm}, {frac(1, -1), api.ErrForm}, {frac(-1, -2), api.ErrForm}, {frac(math.MinInt, -1), api.ErrForm}, {frac(math.MinInt, 2), api.ErrForm}, {frac(1, math.MinInt), api.ErrForm}, {frac(math.MaxInt, math.MaxInt), api.ErrForm},
	} {
		for j, set := range []func(*api.ModelRules, api.Frac){lowest, stepOf} {
			r := exampleRules()
			set(&r, x.f)
			if at, e := model.CheckRules(r); at != 0 || e != x.want {
				t.Error(i, j, at, e)
			}
		}
	}
	for steps, want := range map[int]api.Errno{-1: api.ErrRange, 0: api.OK, 900: api.OK, 901: api.ErrRange, math.MinInt: api.ErrRange, math.MaxInt: api.ErrRange} {
		r := exampleRules()
		r.Steps = steps
		if at, e := model.CheckRules(r); at != 0 || e != want {
			t.Error(steps, at, e)
		}
	}
}

func TestP4_2RulesErrorsInTheirOrder(t *testing.T) {
	r := api.ModelRules{Lowest: frac(2, 2), Step: frac(3, -3), Steps: -1}
	wantErrors(t, func() api.Errno { _, e := model.CheckRules(r); return e },
		step{api.ErrShape, func() { r.Table = make([]api.ModelKnot, 13) }},
		step{api.ErrLarge, func() { r.Table = knots(7, 1, 7, 0) }},
		step{api.ErrRange, func() { r.Table[1].Value = 1 }},
		step{api.ErrOrder, func() { r.Table[1].X = 8 }},
		step{api.ErrForm, func() { r.Lowest = frac(901, 1) }},
		step{api.ErrForm, func() { r.Step = frac(1, 901) }},
		step{api.ErrRange, func() { r.Lowest.Num = 900 }},
		step{api.ErrRange, func() { r.Step.Den = 900 }},
		step{api.ErrRange, func() { r.Steps = 900 }})
	r.Table = knots(5, 5, 6, 6, 7, 0)
	r.Lowest.Den = 0
	if at, e := model.CheckRules(r); at != 2 || e != api.ErrRange {
		t.Error("the knot is named", at, e)
	}
	r.Table = knots(5, 5, 5, 6)
	if at, e := model.CheckRules(r); at != 1 || e != api.ErrOrder {
		t.Error("the knot is named", at, e)
	}
	r.Table = exampleTable()
	if at, e := model.CheckRules(r); at != 0 || e != api.ErrForm {
		t.Error("no knot is named", at, e)
	}
}

// correctionCases are corrections of the example's rules, and their errors.
func correctionCases() map[api.ModelCorrection]api.Errno {
	return map[api.ModelCorrection]api.Errno{
		correction(0, 0): api.OK, correction(0, 4): api.OK, correction(1000000, 0): api.OK, correction(7, 2): api.OK,
		correction(-1, 0): api.ErrRange, correction(1000001, 0): api.ErrRange, correction(0, -1): api.ErrRange, correction(0, 5): api.ErrRange,
		correction(math.MinInt, 0): api.ErrRange, correction(math.MaxInt, 0): api.ErrRange, correction(0, math.MinInt): api.ErrRange, correction(0, math.MaxInt): api.ErrRange,
	}
}

func TestP4_2GainOf(t *testing.T) {
	wide := api.ModelRules{Table: knots(0, 1), Lowest: frac(900, 899), Step: frac(900, 887), Steps: 900}
	whole := api.ModelRules{Table: knots(0, 1), Lowest: frac(900, 1), Step: frac(900, 1), Steps: 900}
	for i, x := range []struct {
		r    api.ModelRules
		at   int
		want api.Frac
	}{
		{exampleRules(), 0, frac(1, 2)}, {exampleRules(), 1, frac(3, 4)}, {exampleRules(), 2, frac(1, 1)}, {exampleRules(), 3, frac(5, 4)}, {exampleRules(), 4, frac(3, 2)},
		{wide, 0, frac(900, 899)}, {wide, 900, frac(728988300, 797413)}, {whole, 900, frac(810900, 1)},
		{api.ModelRules{Table: knots(0, 1), Lowest: frac(1, 900), Step: frac(1, 900), Steps: 900}, 899, frac(1, 1)},
	} {
		if f, e := model.GainOf(x.r, correction(3, x.at)); e != api.OK || f != x.want {
			t.Error(i, f, e)
		}
	}
	for c, want := range correctionCases() {
		if f, e := model.GainOf(exampleRules(), c); e != want || (e != api.OK && f != api.Frac{}) {
			t.Error(c, f, e)
		}
	}
	broken := exampleRules()
	broken.Step = frac(2, 4)
	if f, e := model.GainOf(broken, correction(-1, 0)); e != api.ErrForm || (f != api.Frac{}) {
		t.Error(f, e)
	}
}

func TestP4_2ForceAt(t *testing.T) {
	for i, x := range []struct {
		r     api.ModelRules
		at, x int
		want  api.Frac
		err   api.Errno
	}{
		{exampleRules(), 3, 9250, frac(225, 2), api.OK}, {exampleRules(), 2, 0, frac(200, 1), api.OK}, {exampleRules(), 0, 8009, frac(199, 2), api.OK}, {exampleRules(), 1, 20000, frac(45, 1), api.OK},
		{exampleRules(), 1, 20001, api.Frac{}, api.ErrRange}, {exampleRules(), 1, -1, api.Frac{}, api.ErrRange},
		{steadyRules(100000, 100, 100, 900), 99, 0, frac(1000000000, 1), api.OK}, {steadyRules(100000, 100, 100, 900), 100, 0, api.Frac{}, api.ErrLarge}, {steadyRules(19019, 79, 100, 900), 525, 5, api.Frac{}, api.ErrLarge},
		{steadyRules(100000, 900, 900, 900), 900, 0, api.Frac{}, api.ErrLarge}, {steadyRules(100000, 100, 100, 900), 100, 20001, api.Frac{}, api.ErrRange},
		{api.ModelRules{Table: knots(0, 99999), Lowest: frac(897, 899), Step: frac(1, 887), Steps: 1}, 1, 0, api.Frac{}, api.ErrLarge},
		{api.ModelRules{Table: knots(0, 797413), Lowest: frac(897, 899), Step: frac(1, 887), Steps: 1}, 1, 0, api.Frac{}, api.ErrRange},
		{api.ModelRules{Table: knots(0, 899), Lowest: frac(897, 899), Step: frac(1, 887), Steps: 1}, 1, 0, frac(796538, 887), api.OK},
	} {
		if f, e := model.ForceAt(x.r, correction(0, x.at), x.x); f != x.want || e != x.err {
			t.Error(i, f, e)
		}
	}
	for c, want := range correctionCases() {
		if _, e := model.ForceAt(exampleRules(), c, 5); e != want {
			t.Error(c, e)
		}
	}
}

func TestP4_2ForceErrorsInTheirOrder(t *testing.T) {
	r := steadyRules(100000, 900, 900, 900)
	r.Step.Den = -1
	c, x := correction(-1, 901), -1
	wantErrors(t, func() api.Errno { _, e := model.ForceAt(r, c, x); return e },
		step{api.ErrForm, func() { r.Step.Den = 1 }},
		step{api.ErrRange, func() { c.Version = 0 }},
		step{api.ErrRange, func() { c.At = 900 }},
		step{api.ErrRange, func() { x = 20000 }},
		step{api.ErrLarge, func() { c.At = 0 }})
}

func TestP4_2ForcesByHand(t *testing.T) {
	rnd := rand.New(rand.NewSource(42))
	seen := map[api.Errno]int{}
	for range 3000 {
		r := randomRules(rnd, api.MaxModelValue, 1+rnd.Intn(api.MaxModelGain), api.MaxModelGain)
		at, x := randomFrom(rnd, 0, r.Steps), randomFrom(rnd, 0, api.MaxModelX)
		want, wrong := fracOf(forceByHand(r, at, x))
		if f, e := model.ForceAt(r, correction(0, at), x); f != want || e != wrong {
			t.Fatal(r, at, x, f, e, want)
		}
		seen[wrong]++
		want, wrong = fracOf(gainByHand(r, at))
		if f, e := model.GainOf(r, correction(0, at)); f != want || e != api.OK || wrong != api.OK {
			t.Fatal(r, at, f, e, want)
		}
	}
	if seen[api.OK] < 100 || seen[api.ErrLarge] < 100 {
		t.Error("too few of a kind", seen)
	}
}

// TestP4_11ForcesGrow compares neighbouring steps.
func TestP4_11ForcesGrow(t *testing.T) {
	rnd := rand.New(rand.NewSource(4110))
	for range 500 {
		r := randomRules(rnd, 1000, 30, 40)
		x := randomFrom(rnd, 0, api.MaxModelX)
		for at := range r.Steps {
			lower, e := model.ForceAt(r, correction(0, at), x)
			upper, f := model.ForceAt(r, correction(0, at+1), x)
			if e != api.OK || f != api.OK || ratio(lower).Cmp(ratio(upper)) >= 0 {
				t.Fatal(r, x, at, lower, upper, e, f)
			}
		}
	}
}

func TestP4_3CheckCoil(t *testing.T) {
	twelve := coil("a", 0, 0, 20000, 100000, 3, 3, 3, 3, 2, 5, 1, 6, 0, 7, 0, 8, 0, 9, 0, 1, 0, 2, 0, 3)
	for i, x := range []struct {
		c    api.ModelCoil
		at   int
		want api.Errno
	}{
		{firstCoil(), 0, api.OK}, {secondCoil(), 0, api.OK}, {twelve, 0, api.OK}, {coil("a", 0, 0), 0, api.OK}, {coil("a", 20000, 100000), 0, api.OK},
		{coil("a"), 0, api.ErrShape}, {api.ModelCoil{Name: "a", Readings: make([]api.ModelReading, 13)}, 0, api.ErrLarge}, {api.ModelCoil{Name: "a", Readings: make([]api.ModelReading, 12)}, 0, api.OK},
		{coil("a", -1, 0), 0, api.ErrRange}, {coil("a", 20001, 0), 0, api.ErrRange}, {coil("a", 0, -1), 0, api.ErrRange}, {coil("a", 0, 100001), 0, api.ErrRange},
		{coil("a", 0, 0, -1, 0), 1, api.ErrRange}, {coil("a", 0, 0, 1, 100001, -1, 5), 1, api.ErrRange}, {coil("a", 0, 0, 0, 0, math.MinInt, 0), 2, api.ErrRange}, {coil("a", 0, 0, 0, 0, 0, math.MaxInt), 2, api.ErrRange},
	} {
		if at, e := model.CheckCoil(exampleRules(), x.c); at != x.at || e != x.want {
			t.Error(i, at, e)
		}
	}
	for name, is := range nameCases() {
		c := firstCoil()
		c.Name = name
		if at, e := model.CheckCoil(exampleRules(), c); at != 0 || (e == api.OK) != is || (e == api.ErrName) == is {
			t.Errorf("%q: %d %v", name, at, e)
		}
	}
}

func TestP4_3CoilErrorsInTheirOrder(t *testing.T) {
	r := exampleRules()
	r.Table[2].X = 0
	c := api.ModelCoil{Name: "1"}
	if at, e := model.CheckCoil(r, c); at != 0 || e != api.ErrOrder {
		t.Error("the error of the rules has no index", at, e)
	}
	wantErrors(t, func() api.Errno { _, e := model.CheckCoil(r, c); return e },
		step{api.ErrOrder, func() { r.Table[2].X = 10000; r.Step.Den = 2; r.Step.Num = 2 }},
		step{api.ErrForm, func() { r.Step.Num = 1 }},
		step{api.ErrName, func() { c.Name = "a" }},
		step{api.ErrShape, func() { c.Readings = make([]api.ModelReading, 13); c.Readings[0].X = -1 }},
		step{api.ErrLarge, func() { c.Readings = c.Readings[:12] }},
		step{api.ErrRange, func() { c.Readings[0].X, c.Readings[5].Force = 0, -1 }},
		step{api.ErrRange, func() { c.Readings[5].Force = 0 }})
}

func TestP4_3LossOf(t *testing.T) {
	for i, x := range []struct {
		r    api.ModelRules
		at   int
		c    api.ModelCoil
		want api.Frac
		err  api.Errno
	}{
		{exampleRules(), 2, firstCoil(), frac(80, 1), api.OK}, {exampleRules(), 3, firstCoil(), frac(15, 1), api.OK}, {exampleRules(), 4, firstCoil(), frac(70, 1), api.OK},
		{exampleRules(), 2, secondCoil(), frac(15, 1), api.OK}, {exampleRules(), 1, secondCoil(), frac(0, 1), api.OK}, {exampleRules(), 3, secondCoil(), frac(30, 1), api.OK},
		{exampleRules(), 3, coil("a", 9250, 100, 9250, 113), frac(13, 1), api.OK}, {exampleRules(), 3, coil("a", 9250, 112), frac(1, 2), api.OK}, {exampleRules(), 3, coil("a", 9250, 113), frac(1, 2), api.OK},
		{steadyRules(100000, 100, 100, 900), 99, coil("a", 5, 0), frac(1000000000, 1), api.OK}, {steadyRules(100000, 100, 100, 900), 99, coil("a", 5, 0, 5, 100000), api.Frac{}, api.ErrLarge}, {steadyRules(19019, 79, 100, 900), 525, coil("a", 5, 0), api.Frac{}, api.ErrLarge}, {steadyRules(19019, 79, 100, 900), 525, coil("a", 5, 1), frac(1000000000, 1), api.OK},
		{exampleRules(), 2, coil("a"), api.Frac{}, api.ErrShape}, {exampleRules(), 5, coil("a"), api.Frac{}, api.ErrRange}, {exampleRules(), -1, coil("a"), api.Frac{}, api.ErrRange}, {exampleRules(), 2, coil("?", 1, 1), api.Frac{}, api.ErrName}, {exampleRules(), 2, coil("a", 1, -1), api.Frac{}, api.ErrRange},
		{steadyRules(1, 0, 1, 1), 5, coil("a"), api.Frac{}, api.ErrRange}, {steadyRules(100000, 900, 900, 900), 900, coil("a"), api.Frac{}, api.ErrShape},
	} {
		if f, e := model.LossOf(x.r, correction(0, x.at), x.c); f != x.want || e != x.err {
			t.Error(i, f, e)
		}
	}
	for c, want := range correctionCases() {
		if _, e := model.LossOf(exampleRules(), c, firstCoil()); e != want {
			t.Error(c, e)
		}
	}
}

func TestP4_3LossesByHand(t *testing.T) {
	rnd := rand.New(rand.NewSource(43))
	seen := map[api.Errno]int{}
	for range 2000 {
		r := randomRules(rnd, api.MaxModelValue, 1+rnd.Intn(api.MaxModelGain), api.MaxModelGain)
		if rnd.Intn(2) == 0 {
			r = smallRules(rnd)
		}
		at, c := randomFrom(rnd, 0, r.Steps), randomCoil(rnd, r, "a")
		want, wrong := fracOf(lossByHand(r, at, c))
		if f, e := model.LossOf(r, correction(9, at), c); f != want || e != wrong {
			t.Fatal(r, at, c, f, e, want)
		}
		seen[wrong]++
	}
	if seen[api.OK] < 100 || seen[api.ErrLarge] < 100 {
		t.Error("too few of a kind", seen)
	}
}
