package gauge_test

import (
	"math"
	"math/big"
	"math/rand"
	"slices"
	"testing"

	"cobble/api"
	"cobble/gauge"
)

// loopCases are loops, and their errors.
func loopCases() []loopCase {
	r := ends(0, 0)
	return []loopCase{
		{exampleLoop(), api.OK}, {wideLoop(), api.OK}, {loopOf(1, r, r, r), api.OK}, {loopOf(10, ends(-10, 10)), api.OK}, {loopOf(1, ends(-10, -10), ends(10, 10)), api.OK},
		{loopOf(1), api.ErrShape}, {loopOf(0), api.ErrShape}, {api.GaugeLoop{}, api.ErrShape}, {loopOf(1, r, r, r, r), api.ErrLarge}, {loopOf(0, ends(11, 0), r, r, r), api.ErrLarge},
		{loopOf(1, ends(-11, 0)), api.ErrRange}, {loopOf(1, ends(0, 11)), api.ErrRange}, {loopOf(1, ends(11, 0)), api.ErrRange}, {loopOf(1, ends(0, -11)), api.ErrRange}, {loopOf(1, ends(math.MinInt, 0)), api.ErrRange}, {loopOf(1, ends(0, math.MaxInt)), api.ErrRange}, {loopOf(1, r, r, ends(0, 11)), api.ErrRange},
		{loopOf(1, ends(1, 0)), api.ErrOrder}, {loopOf(0, ends(10, -10)), api.ErrOrder}, {loopOf(1, r, ends(-1, -2)), api.ErrOrder},
		{loopOf(1, ends(1, 0), ends(0, 11)), api.ErrOrder}, {loopOf(1, ends(0, 11), ends(1, 0)), api.ErrRange},
		{loopOf(0, r), api.ErrRange}, {loopOf(11, r), api.ErrRange}, {loopOf(-1, r), api.ErrRange}, {loopOf(math.MinInt, r), api.ErrRange}, {loopOf(math.MaxInt, r), api.ErrRange},
	}
}

type loopCase struct {
	l    api.GaugeLoop
	want api.Errno
}

func TestP5_2CheckLoop(t *testing.T) {
	for i, x := range loopCases() {
		if e := gauge.CheckLoop(x.l); e != x.want {
			t.Error(i, e)
		}
	}
	l := api.GaugeLoop{Den: 11}
	wantErrors(t, func() api.Errno { return gauge.CheckLoop(l) },
		step{api.ErrShape, func() { l.Coefs = []api.Range{ends(1, -11), ends(11, 10), ends(1, 0), ends(0, 0)} }},
		step{api.ErrLarge, func() { l.Coefs = l.Coefs[:3] }},
		step{api.ErrRange, func() { l.Coefs[0].Hi = 0 }},
		step{api.ErrOrder, func() { l.Coefs[0].Hi = 1 }},
		step{api.ErrRange, func() { l.Coefs[1].Lo = 10 }},
		step{api.ErrOrder, func() { l.Coefs[2].Hi = 1 }},
		step{api.ErrRange, func() { l.Den = 10 }})
}

func TestP5_2PowerOf(t *testing.T) {
	r := func(n int) api.Range { return ends(n, n) }
	for i, x := range []struct {
		l     api.GaugeLoop
		steps int
		want  [][]api.Range
		err   api.Errno
	}{
		{exampleLoop(), 0, [][]api.Range{{r(1), r(0)}, {r(0), r(1)}}, api.OK},
		{exampleLoop(), 1, [][]api.Range{{r(5), r(-2)}, {r(10), r(0)}}, api.OK},
		{exampleLoop(), 2, [][]api.Range{{r(5), r(-10)}, {r(50), r(-20)}}, api.OK},
		{exampleLoop(), 3, [][]api.Range{{r(-75), r(-10)}, {r(50), r(-100)}}, api.OK},
		{wideLoop(), 0, [][]api.Range{{r(1)}}, api.OK}, {wideLoop(), 1, [][]api.Range{{ends(5, 10)}}, api.OK}, {wideLoop(), 2, [][]api.Range{{ends(25, 100)}}, api.OK}, {wideLoop(), 6, [][]api.Range{{ends(15625, 1000000)}}, api.OK},
		// the ends of a product may come from any ends
		{loopOf(2, ends(-3, 2)), 2, [][]api.Range{{ends(-6, 9)}}, api.OK}, {loopOf(2, ends(-3, 2)), 3, [][]api.Range{{ends(-27, 18)}}, api.OK}, {loopOf(2, ends(-3, -2)), 2, [][]api.Range{{ends(4, 9)}}, api.OK}, {loopOf(2, ends(-3, -2)), 3, [][]api.Range{{ends(-27, -8)}}, api.OK},
		{loopOf(3, ends(0, 1), ends(-2, 0), ends(4, 4)), 1, [][]api.Range{{ends(0, 1), ends(-2, 0), r(4)}, {r(3), r(0), r(0)}, {r(0), r(3), r(0)}}, api.OK},
		{loopOf(3, ends(0, 1), ends(-2, 0), ends(4, 4)), 2, [][]api.Range{{ends(-6, 1), ends(10, 12), ends(0, 4)}, {ends(0, 3), ends(-6, 0), r(12)}, {r(9), r(0), r(0)}}, api.OK},
		{loopOf(1, ends(10, 10)), 6, [][]api.Range{{r(1000000)}}, api.OK},
		{exampleLoop(), -1, nil, api.ErrRange}, {exampleLoop(), 7, nil, api.ErrRange}, {exampleLoop(), math.MinInt, nil, api.ErrRange}, {exampleLoop(), math.MaxInt, nil, api.ErrRange}, {loopOf(1, ends(1, 0)), 7, nil, api.ErrOrder},
	} {
		if m, e := gauge.PowerOf(x.l, x.steps); !alike(m, x.want) || e != x.err {
			t.Error(i, m, e)
		}
	}
}

// productByHand is the product of the matrices of ticks, times Den to the power of
// their number.
func productByHand(l api.GaugeLoop, coefs [][]int) [][]int {
	n := len(l.Coefs)
	product := make([][]int, n)
	for i := range n {
		product[i] = make([]int, n)
		product[i][i] = 1
	}
	for _, numerators := range coefs {
		first := make([]int, n)
		for j := range n {
			for k, c := range numerators {
				first[j] += c * product[k][j]
			}
		}
		next := [][]int{first}
		for _, row := range product[:n-1] {
			var scaled []int
			for _, x := range row {
				scaled = append(scaled, l.Den*x)
			}
			next = append(next, scaled)
		}
		product = next
	}
	return product
}

func TestP5_2PowersByHand(t *testing.T) {
	rnd := rand.New(rand.NewSource(52))
	for range 1000 {
		l, steps := randomLoop(rnd, api.MaxGaugeCoef), randomFrom(rnd, 0, api.MaxGaugeSteps)
		power, e := gauge.PowerOf(l, steps)
		if want := powerByHand(l, steps); e != api.OK || !alike(power, want) {
			t.Fatal(l, steps, power, e, want)
		}
		coefs := randomTicks(rnd, l, steps)
		for i, row := range productByHand(l, coefs) {
			if !isIn(row, power[i]) {
				t.Fatal("a product lies outside", l, coefs, row, power[i])
			}
		}
	}
}

func TestP5_2RunOf(t *testing.T) {
	tens := slices.Repeat(ticks(numbers(10)), 8)
	none := make([]int, 8)
	ten, minus := exactLoop(1, 10), exactLoop(1, -10)
	for i, x := range []struct {
		l    api.GaugeLoop
		x    api.GaugeRun
		want []api.Frac
		err  api.Errno
	}{
		{exampleLoop(), run(numbers(2, 4), ticks(numbers(5, -2)), 3), []api.Frac{frac(16, 5)}, api.OK},
		{exampleLoop(), run(numbers(2, 4), nil), nil, api.OK},
		{exampleLoop(), run(numbers(0, 0), ticks(numbers(5, -2), numbers(5, -2), numbers(5, -2)), 1, 0, 0), []api.Frac{whole(1), frac(1, 2), frac(1, 20)}, api.OK},
		{wideLoop(), run(numbers(100), ticks(numbers(5), numbers(10), numbers(7)), 0, -50, 100), []api.Frac{whole(50), whole(0), whole(100)}, api.OK},
		// the numbers of the start are the last one first
		{loopOf(4, ends(0, 10), ends(0, 10), ends(0, 10)), run(numbers(1, 10, 100), ticks(numbers(1, 2, 3), numbers(0, 4, 0), numbers(0, 0, 4), numbers(4, 0, 0)), 0, 0, 0, -1), []api.Frac{frac(321, 4), whole(1), whole(1), whole(0)}, api.OK},
		// the greatest number, and a greater one
		{ten, run(numbers(100), tens[:7], none[:7]...), []api.Frac{whole(1000), whole(10000), whole(100000), whole(1000000), whole(10000000), whole(100000000), whole(1000000000)}, api.OK},
		{ten, run(numbers(-100), tens[:7], 0, 0, 0, 0, 0, 0, 1), []api.Frac{whole(-1000), whole(-10000), whole(-100000), whole(-1000000), whole(-10000000), whole(-100000000), whole(-999999999)}, api.OK},
		{ten, run(numbers(100), tens[:7], 0, 0, 0, 0, 0, 0, 1), nil, api.ErrLarge}, {ten, run(numbers(-100), tens[:7], 0, 0, 0, 0, 0, 0, -1), nil, api.ErrLarge}, {ten, run(numbers(100), tens, none...), nil, api.ErrLarge},
		{minus, run(numbers(100), slices.Repeat(ticks(numbers(-10)), 8), none...), nil, api.ErrLarge},
		{exactLoop(10, 1), run(numbers(1), slices.Repeat(ticks(numbers(1)), 8), none...), []api.Frac{frac(1, 10), frac(1, 100), frac(1, 1000), frac(1, 10000), frac(1, 100000), frac(1, 1000000), frac(1, 10000000), frac(1, 100000000)}, api.OK},
		{exactLoop(1, 0), run(numbers(100), slices.Repeat(ticks(numbers(0)), 9), make([]int, 9)...), nil, api.ErrLarge},
	} {
		if got, e := gauge.RunOf(x.l, x.x); !alike(got, x.want) || e != x.err {
			t.Error(i, got, e)
		}
	}
}

func TestP5_2RunErrorsInTheirOrder(t *testing.T) {
	l := exampleLoop()
	l.Den = 0
	x := run(numbers(101), slices.Repeat(ticks(numbers(5, -2)), 9), 101)
	x.Coefs[1], x.Coefs[2] = numbers(5, -1), numbers(5)
	wantErrors(t, func() api.Errno { _, e := gauge.RunOf(l, x); return e },
		step{api.ErrRange, func() { l.Den = 10 }},
		step{api.ErrShape, func() { x.Start = numbers(101, -100) }},
		step{api.ErrRange, func() { x.Start = numbers(100, -101) }},
		step{api.ErrRange, func() { x.Start = numbers(100, math.MinInt) }},
		step{api.ErrRange, func() { x.Start = numbers(100, -100) }},
		step{api.ErrLarge, func() { x.Coefs = x.Coefs[:8] }},
		// each tick is looked at for all of its errors
		step{api.ErrBreak, func() { x.Coefs[1] = numbers(6, -2) }},
		step{api.ErrBreak, func() { x.Coefs[1] = numbers(5, -3) }},
		step{api.ErrBreak, func() { x.Coefs[1] = numbers(math.MinInt, math.MaxInt) }},
		step{api.ErrBreak, func() { x.Coefs[1] = numbers(5, -2) }},
		step{api.ErrShape, func() { x.Coefs[2] = numbers(5, -2, 0) }},
		step{api.ErrShape, func() { x.Coefs[2] = nil }},
		step{api.ErrShape, func() { x.Coefs[2] = numbers(5, -2) }},
		step{api.ErrShape, func() { x.Disturbances = make([]int, 9) }},
		step{api.ErrShape, func() { x.Disturbances = numbers(100, -100, 0, 0, 0, 101, 0, 0) }},
		step{api.ErrRange, func() { x.Disturbances[5] = -101 }},
		step{api.ErrRange, func() { x.Disturbances[5] = math.MinInt }},
		step{api.ErrRange, func() { x.Disturbances[5] = -100 }})
}

func TestP5_2RunsByHand(t *testing.T) {
	rnd := rand.New(rand.NewSource(520))
	seen := map[api.Errno]int{}
	for range 3000 {
		l := randomLoop(rnd, api.MaxGaugeCoef)
		x := randomRun(rnd, l, randomFrom(rnd, 0, api.MaxGaugeTicks))
		want, wrong := fracsOf(runByHand(l, x))
		if got, e := gauge.RunOf(l, x); !alike(got, want) || e != wrong {
			t.Fatal(l, x, got, e, want, wrong)
		}
		seen[wrong]++
	}
	wantSeen(t, seen, 20, api.OK, api.ErrLarge)
}

func TestP5_4ResponseOf(t *testing.T) {
	nines := exactLoop(10, 9, 9, 9)
	for i, x := range []struct {
		l     api.GaugeLoop
		steps int
		want  []api.Frac
		err   api.Errno
	}{
		{exampleLoop(), 3, []api.Frac{whole(1), frac(1, 2), frac(1, 20), frac(-3, 40)}, api.OK}, {exampleLoop(), 0, []api.Frac{whole(1)}, api.OK},
		{exactLoop(7, 0), 2, []api.Frac{whole(1), whole(0), whole(0)}, api.OK}, {exactLoop(7, 0, 0, 5), 8, []api.Frac{whole(1), whole(0), whole(0), frac(5, 7), whole(0), whole(0), frac(25, 49), whole(0), whole(0)}, api.OK},
		{exactLoop(1, 10), 8, []api.Frac{whole(1), whole(10), whole(100), whole(1000), whole(10000), whole(100000), whole(1000000), whole(10000000), whole(100000000)}, api.OK},
		{nines, 2, []api.Frac{whole(1), frac(9, 10), frac(171, 100)}, api.OK}, {nines, 8, nil, api.ErrLarge},
		{exampleLoop(), -1, nil, api.ErrRange}, {exampleLoop(), 9, nil, api.ErrRange}, {exampleLoop(), math.MinInt, nil, api.ErrRange}, {exampleLoop(), math.MaxInt, nil, api.ErrRange},
		{wideLoop(), 3, nil, api.ErrForm}, {wideLoop(), 9, nil, api.ErrForm}, {loopOf(10, ends(5, 5), ends(-2, -1)), 1, nil, api.ErrForm}, {loopOf(0, ends(5, 6)), 9, nil, api.ErrRange}, {loopOf(10, ends(6, 5)), 9, nil, api.ErrOrder},
	} {
		if got, e := gauge.ResponseOf(x.l, x.steps); !alike(got, x.want) || e != x.err {
			t.Error(i, got, e)
		}
	}
}

func TestP5_4ResponsesByHand(t *testing.T) {
	rnd := rand.New(rand.NewSource(540))
	seen := map[api.Errno]int{}
	for range 10000 {
		l, steps := randomExactLoop(rnd, api.MaxGaugeCoef), randomFrom(rnd, 0, api.MaxGaugeTicks)
		want, wrong := fracsOf(runByHand(l, pulse(l, steps)))
		if got, e := gauge.ResponseOf(l, steps); !alike(got, want) || e != wrong {
			t.Fatal(l, steps, got, e, want, wrong)
		}
		seen[wrong]++
	}
	wantSeen(t, seen, 5, api.OK, api.ErrLarge)
}

func sums(a, b []int) []int {
	var l []int
	for i, n := range a {
		l = append(l, n+b[i])
	}
	return l
}

func TestP5_12Superposition(t *testing.T) {
	rnd := rand.New(rand.NewSource(512))
	for range 1000 {
		l := randomExactLoop(rnd, 4)
		l.Den = randomFrom(rnd, 4, api.MaxGaugeCoef)
		coefs := randomTicks(rnd, l, 1+rnd.Intn(5))
		random := func(n int) []int { return randomNumbers(rnd, n, api.MaxGaugeStart/2) }
		x := run(random(len(l.Coefs)), coefs, random(len(coefs))...)
		y := run(random(len(l.Coefs)), coefs, random(len(coefs))...)
		both := run(sums(x.Start, y.Start), coefs, sums(x.Disturbances, y.Disturbances)...)
		a, b := mustRun(t, l, x), mustRun(t, l, y)
		for i, got := range mustRun(t, l, both) {
			if want := new(big.Rat).Add(a[i], b[i]); got.Cmp(want) != 0 {
				t.Fatal(l, x, y, got, want)
			}
		}
	}
}
