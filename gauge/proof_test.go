package gauge_test

import (
	"math"
	"math/big"
	"math/rand"
	"slices"
	"testing"

	"cobble/api"
	"cobble/gauge"
)

func TestP5_3NormOf(t *testing.T) {
	wide := loopOf(10, ends(-10, 10), ends(-10, 10), ends(-10, 10))
	for i, x := range []struct {
		l    api.GaugeLoop
		p    api.GaugeProof
		want api.Frac
	}{
		{exampleLoop(), proof(1, 1, 1), whole(1)}, {exampleLoop(), proof(2, 1, 1), frac(7, 10)},
		// weights: 5/10 + 2/10 times 2, and 1/2; (5 + 2 times 10) / 10, and 1/10; 5 times 10 + 2 over 10 times 10, and 10
		{exampleLoop(), proof(1, 1, 2), frac(9, 10)}, {exampleLoop(), proof(1, 1, 10), frac(5, 2)}, {exampleLoop(), proof(1, 10, 1), whole(10)}, {exampleLoop(), proof(1, 10, 10), whole(1)}, {exampleLoop(), proof(1, 4, 5), frac(4, 5)},
		{wideLoop(), proof(1, 1), whole(1)}, {wideLoop(), proof(6, 7), whole(1)}, {loopOf(10, ends(-9, 5)), proof(2, 3), frac(81, 100)}, {loopOf(10, ends(-3, 5)), proof(1, 3), frac(1, 2)},
		{exactLoop(10, 0), proof(1, 1), whole(0)}, {exactLoop(10, 0, 0), proof(1, 1, 1), whole(1)}, {exactLoop(10, 0, 0), proof(2, 1, 1), whole(0)}, {exactLoop(1, 0, 0, 0), proof(2, 5, 5, 5), whole(1)}, {exactLoop(1, 0, 0, 0), proof(3, 5, 5, 5), whole(0)},
		{exactLoop(1, 10), proof(6, 1), whole(1000000)}, {exactLoop(1, 10, 10, 10), proof(1, 1, 10, 10), whole(210)},
		{wide, proof(1, 1, 1, 1), whole(3)}, {wide, proof(6, 1, 10, 10), whole(354)},
	} {
		if f, e := gauge.NormOf(x.l, x.p); f != x.want || e != api.OK {
			t.Error(i, f, e)
		}
	}
}

// TestP5_3ProofErrors are the same for all calls that take a proof.
func TestP5_3ProofErrors(t *testing.T) {
	for i, x := range []struct {
		p    api.GaugeProof
		want api.Errno
	}{
		{proof(0, 1, 1), api.ErrRange}, {proof(7, 1, 1), api.ErrRange}, {proof(-1, 1, 1), api.ErrRange}, {proof(math.MinInt, 1, 1), api.ErrRange}, {proof(math.MaxInt), api.ErrRange}, {proof(6, 1, 1), api.OK}, {proof(2, 10, 10), api.OK},
		{proof(2), api.ErrShape}, {proof(2, 1), api.ErrShape}, {proof(2, 1, 1, 1), api.ErrShape}, {proof(2, 0), api.ErrShape}, {proof(0), api.ErrRange},
		{proof(2, 0, 1), api.ErrRange}, {proof(2, 1, 0), api.ErrRange}, {proof(2, 11, 1), api.ErrRange}, {proof(2, 1, 11), api.ErrRange}, {proof(2, -1, -1), api.ErrRange}, {proof(1, 1, 11), api.ErrRange}, {proof(2, math.MinInt, math.MaxInt), api.ErrRange},
	} {
		_, e1 := gauge.NormOf(exampleLoop(), x.p)
		_, e2 := gauge.CheckSettling(exampleLoop(), x.p)
		_, e3 := gauge.GainBound(exampleLoop(), x.p)
		if e1 != x.want || e2 != x.want || e3 != x.want {
			t.Error(i, e1, e2, e3)
		}
	}
	for i, x := range loopCases() {
		bad := proof(0)
		_, e1 := gauge.NormOf(x.l, bad)
		_, e2 := gauge.CheckSettling(x.l, bad)
		if x.want != api.OK && (e1 != x.want || e2 != x.want) {
			t.Error(i, e1, e2)
		}
	}
}

func TestP5_3CheckSettling(t *testing.T) {
	for i, x := range []struct {
		l    api.GaugeLoop
		p    api.GaugeProof
		want api.Frac
		err  api.Errno
	}{
		{exampleLoop(), proof(2, 1, 1), frac(7, 10), api.OK}, {exampleLoop(), proof(1, 4, 5), frac(4, 5), api.OK},
		// a norm of exactly 1 proves nothing
		{exampleLoop(), proof(1, 1, 1), api.Frac{}, api.ErrProof}, {wideLoop(), proof(6, 1), api.Frac{}, api.ErrProof}, {exactLoop(10, 10), proof(1, 1), api.Frac{}, api.ErrProof}, {exactLoop(10, -10), proof(6, 1), api.Frac{}, api.ErrProof},
		{exactLoop(10, 9), proof(1, 1), frac(9, 10), api.OK}, {exactLoop(10, -9), proof(6, 10), frac(531441, 1000000), api.OK}, {loopOf(10, ends(-9, 9)), proof(1, 1), frac(9, 10), api.OK}, {loopOf(10, ends(-10, 0)), proof(1, 1), api.Frac{}, api.ErrProof},
		{exactLoop(10, 0), proof(1, 1), whole(0), api.OK}, {exactLoop(1, 10, 10, 10), proof(6, 1, 10, 10), api.Frac{}, api.ErrProof},
	} {
		if f, e := gauge.CheckSettling(x.l, x.p); f != x.want || e != x.err {
			t.Error(i, f, e)
		}
	}
}

func TestP5_3SettlingOf(t *testing.T) {
	for i, x := range []struct {
		l    api.GaugeLoop
		want api.GaugeProof
		err  api.Errno
	}{
		{exampleLoop(), proof(2, 1, 1), api.OK}, {exactLoop(10, 9), proof(1, 1), api.OK},
		// as many steps as coefficients
		{exactLoop(10, 0), proof(1, 1), api.OK}, {exactLoop(10, 0, 0), proof(2, 1, 1), api.OK}, {exactLoop(1, 0, 0, 0), proof(3, 1, 1, 1), api.OK},
		{exactLoop(10, 0, 0, 9), proof(3, 1, 1, 1), api.OK}, {loopOf(10, ends(-3, 3), ends(-3, 3), ends(-3, 3)), proof(3, 1, 1, 1), api.OK}, {exactLoop(10, 10, -5), proof(4, 1, 1), api.OK}, {exactLoop(10, 9, -7), proof(3, 1, 1), api.OK}, {exactLoop(10, 10, -9), proof(6, 1, 1), api.OK},
		{wideLoop(), api.GaugeProof{}, api.ErrNone}, {exactLoop(10, 10), api.GaugeProof{}, api.ErrNone}, {exactLoop(1, 1, -1), api.GaugeProof{}, api.ErrNone}, {exactLoop(1, 10, 10, 10), api.GaugeProof{}, api.ErrNone}, {loopOf(10, ends(-10, 10)), api.GaugeProof{}, api.ErrNone},
	} {
		if p, e := gauge.SettlingOf(x.l); !alike(p, x.want) || e != x.err {
			t.Error(i, p, e)
		}
	}
	for i, x := range loopCases() {
		if _, e := gauge.SettlingOf(x.l); x.want != api.OK && e != x.want {
			t.Error(i, e)
		}
	}
}

// settlingByHand tries all numbers of steps; 0 if none settles.
func settlingByHand(l api.GaugeLoop) int {
	for steps := 1; steps <= api.MaxGaugeSteps; steps++ {
		if normByHand(l, proof(steps, slices.Repeat(numbers(1), len(l.Coefs))...)).Cmp(rat(1, 1)) < 0 {
			return steps
		}
	}
	return 0
}

func TestP5_3NormsByHand(t *testing.T) {
	rnd := rand.New(rand.NewSource(530))
	seen := map[api.Errno]int{}
	stepsSeen := map[int]int{}
	for range 4000 {
		l := randomLoop(rnd, 1+rnd.Intn(api.MaxGaugeCoef))
		p := randomProof(rnd, l)
		norm := normByHand(l, p)
		want, wrong := fracOf(norm)
		if f, e := gauge.NormOf(l, p); f != want || e != wrong {
			t.Fatal(l, p, f, e, want, wrong)
		}
		if norm.Cmp(rat(1, 1)) >= 0 {
			want, wrong = api.Frac{}, api.ErrProof
		}
		if f, e := gauge.CheckSettling(l, p); f != want || e != wrong {
			t.Fatal(l, p, f, e, want, wrong)
		}
		seen[wrong]++
		steps := settlingByHand(l)
		if got, e := gauge.SettlingOf(l); got.Steps != steps || (e == api.ErrNone) != (steps == 0) {
			t.Fatal(l, got, e, steps)
		}
		stepsSeen[steps]++
	}
	wantSeen(t, seen, 500, api.OK, api.ErrProof)
	wantSeen(t, stepsSeen, 5, 0, 1, 2, 3, 4, 5)
}

func TestP5_3CheckGrowth(t *testing.T) {
	turning := exactLoop(1, 0, -1)
	free := loopOf(10, ends(-10, 10), ends(-10, 10))
	large := loopOf(10, ends(9, 9), ends(0, 9))
	nines := slices.Repeat(ticks(numbers(9, 9)), 7)
	for i, x := range []struct {
		l    api.GaugeLoop
		g    api.GaugeGrowth
		want api.Frac
		err  api.Errno
	}{
		{wideLoop(), growth(numbers(3), numbers(10)), whole(1), api.OK}, {wideLoop(), growth(numbers(-100), numbers(10), numbers(10)), whole(1), api.OK}, {wideLoop(), growth(numbers(3), numbers(9)), api.Frac{}, api.ErrProof}, {wideLoop(), growth(numbers(3), numbers(10), numbers(9)), api.Frac{}, api.ErrProof},
		// the factor may be below 0
		{exactLoop(2, -3), growth(numbers(7), numbers(-3)), frac(-3, 2), api.OK}, {exactLoop(2, -3), growth(numbers(-7), numbers(-3), numbers(-3)), frac(9, 4), api.OK}, {exactLoop(3, -3), growth(numbers(7), numbers(-3)), whole(-1), api.OK}, {exactLoop(10, -9), growth(numbers(7), numbers(-9)), api.Frac{}, api.ErrProof},
		{exactLoop(1, 10), growth(numbers(1), slices.Repeat(ticks(numbers(10)), 8)...), whole(100000000), api.OK},
		// a quarter of a turn, half of one, and a whole one
		{turning, growth(numbers(1, 0), numbers(0, -1)), api.Frac{}, api.ErrProof}, {turning, growth(numbers(1, 0), slices.Repeat(ticks(numbers(0, -1)), 2)...), whole(-1), api.OK}, {turning, growth(numbers(0, 5), slices.Repeat(ticks(numbers(0, -1)), 2)...), whole(-1), api.OK}, {turning, growth(numbers(3, 5), slices.Repeat(ticks(numbers(0, -1)), 4)...), whole(1), api.OK}, {turning, growth(numbers(3, 5), slices.Repeat(ticks(numbers(0, -1)), 3)...), api.Frac{}, api.ErrProof},
		{exactLoop(1, 1, 2), growth(numbers(2, 1), numbers(1, 2)), whole(2), api.OK}, {exactLoop(1, 1, 2), growth(numbers(1, 2), numbers(1, 2)), api.Frac{}, api.ErrProof}, {exactLoop(1, 1, 2), growth(numbers(-1, 1), numbers(1, 2)), whole(-1), api.OK}, {exactLoop(1, 0, 0, 8), growth(numbers(4, 2, 1), numbers(0, 0, 8)), whole(2), api.OK}, {exactLoop(1, 0, 0, 8), growth(numbers(4, 2, 0), numbers(0, 0, 8)), api.Frac{}, api.ErrProof},
		{free, growth(numbers(1, 1), numbers(5, 5), numbers(-3, 10), numbers(0, 10)), api.Frac{}, api.ErrProof}, {free, growth(numbers(1, 1), numbers(5, 5), numbers(0, 10), numbers(10, 0)), whole(1), api.OK}, {free, growth(numbers(1, 0), numbers(10, 3), numbers(0, 0)), api.Frac{}, api.ErrProof},
		// the state becomes 0
		{exactLoop(1, 0), growth(numbers(1), numbers(0)), api.Frac{}, api.ErrProof}, {exactLoop(1, 0, 0), growth(numbers(1, 1), numbers(0, 0), numbers(0, 0)), api.Frac{}, api.ErrProof},
		{large, growth(numbers(9, 10), append(slices.Clone(nines[:6]), numbers(9, 0))...), frac(121962429, 10000000), api.OK},
		{large, growth(numbers(9, 10), append(slices.Clone(nines), numbers(9, 0))...), api.Frac{}, api.ErrLarge},
		{large, growth(numbers(9, 10), append(slices.Clone(nines), numbers(9, 1))...), api.Frac{}, api.ErrProof},
	} {
		if f, e := gauge.CheckGrowth(x.l, x.g); f != x.want || e != x.err {
			t.Error(i, f, e)
		}
	}
}

func TestP5_3GrowthErrorsInTheirOrder(t *testing.T) {
	l := exactLoop(1, 1, 2)
	l.Coefs[1].Lo = 3
	g := growth(numbers(0), slices.Repeat(ticks(numbers(1, 2)), 9)...)
	g.Coefs[1], g.Coefs[2] = numbers(1, 1), numbers(1)
	wantErrors(t, func() api.Errno { _, e := gauge.CheckGrowth(l, g); return e },
		step{api.ErrOrder, func() { l.Coefs[1].Lo = 2 }},
		step{api.ErrShape, func() { g.Start = numbers(0, 101) }},
		step{api.ErrRange, func() { g.Start = numbers(0, 0) }},
		step{api.ErrLarge, func() { g.Coefs = g.Coefs[:8] }},
		step{api.ErrBreak, func() { g.Coefs[1] = numbers(1, 2) }},
		step{api.ErrShape, func() { g.Coefs[2] = numbers(1, 2, 0) }},
		step{api.ErrShape, func() { g.Coefs = nil }},
		step{api.ErrShape, func() { g.Coefs = ticks(numbers(1, 2)) }},
		step{api.ErrZero, func() { g.Start = numbers(2, 2) }},
		step{api.ErrProof, func() { g.Start = numbers(2, 1) }})
}

// growthByHand is the factor of a growth; nil if it is none.
func growthByHand(l api.GaugeLoop, g api.GaugeGrowth) *big.Rat {
	state := stateByHand(l, run(g.Start, g.Coefs, make([]int, len(g.Coefs))...))
	var factor *big.Rat
	for i, n := range g.Start {
		if n != 0 {
			factor = over(state[i], rat(n, 1))
		}
	}
	for i, n := range g.Start {
		if state[i].Cmp(times(factor, rat(n, 1))) != 0 {
			return nil
		}
	}
	if sizeOf(factor).Cmp(rat(1, 1)) < 0 {
		return nil
	}
	return factor
}

// growthsToTry are starts and numerators of loops with small numbers: some of them
// are growths.
func growthsToTry(rnd *rand.Rand, n int) []growthCase {
	var all []growthCase
	for len(all) < n {
		l := randomLoop(rnd, 4)
		l.Den = 1 + rnd.Intn(4)
		g := growth(randomNumbers(rnd, len(l.Coefs), 3), randomTicks(rnd, l, 1+rnd.Intn(4))...)
		if slices.ContainsFunc(g.Start, func(n int) bool { return n != 0 }) {
			all = append(all, growthCase{l, g})
		}
	}
	return all
}

type growthCase struct {
	l api.GaugeLoop
	g api.GaugeGrowth
}

func TestP5_3GrowthsByHand(t *testing.T) {
	rnd := rand.New(rand.NewSource(533))
	seen := map[api.Errno]int{}
	orders := map[int]int{}
	for _, x := range growthsToTry(rnd, 20000) {
		want, wrong := api.Frac{}, api.ErrProof
		if factor := growthByHand(x.l, x.g); factor != nil {
			want, wrong = fracOf(factor)
			orders[len(x.l.Coefs)]++
		}
		if f, e := gauge.CheckGrowth(x.l, x.g); f != want || e != wrong {
			t.Fatal(x, f, e, want, wrong)
		}
		seen[wrong]++
	}
	wantSeen(t, seen, 500, api.OK, api.ErrProof)
	wantSeen(t, orders, 10, 1, 2, 3)
}

func TestP5_4GainBound(t *testing.T) {
	for i, x := range []struct {
		l    api.GaugeLoop
		p    api.GaugeProof
		want api.Frac
		err  api.Errno
	}{
		{exampleLoop(), proof(2, 1, 1), frac(20, 3), api.OK},
		// 4 times 1/4, over 1 minus 4/5; 4 times (1/4 + 1/5), over 1 minus 3/5
		{exampleLoop(), proof(1, 4, 5), whole(5), api.OK}, {exampleLoop(), proof(2, 4, 5), frac(9, 2), api.OK},
		{exactLoop(10, 9), proof(1, 1), whole(10), api.OK}, {exactLoop(10, -9), proof(2, 3), whole(10), api.OK}, {exactLoop(10, 0), proof(1, 10), whole(1), api.OK}, {exactLoop(10, 0, 0), proof(2, 1, 1), whole(2), api.OK},
		{exactLoop(10, 3, 4, -6), proof(6, 5, 7, 9), api.Frac{}, api.ErrLarge}, {exactLoop(9, 5, 5, -6), proof(6, 9, 7, 10), api.Frac{}, api.ErrLarge},
		{exampleLoop(), proof(1, 1, 1), api.Frac{}, api.ErrProof}, {exactLoop(1, 10, 10, 10), proof(6, 1, 1, 1), api.Frac{}, api.ErrProof},
		{wideLoop(), proof(1, 1), api.Frac{}, api.ErrForm}, {wideLoop(), proof(0), api.Frac{}, api.ErrForm}, {loopOf(10, ends(6, 5)), proof(0), api.Frac{}, api.ErrOrder}, {loopOf(0, ends(5, 6)), proof(1, 1), api.Frac{}, api.ErrRange},
	} {
		if f, e := gauge.GainBound(x.l, x.p); f != x.want || e != x.err {
			t.Error(i, f, e)
		}
	}
}

func TestP5_4GainBoundsByHand(t *testing.T) {
	rnd := rand.New(rand.NewSource(541))
	for _, x := range settled(rnd, 2000, randomExactLoop) {
		want, wrong := fracOf(gainByHand(x.l, x.p))
		if f, e := gauge.GainBound(x.l, x.p); f != want || e != wrong {
			t.Fatal(x, f, e, want, wrong)
		}
	}
}

// TestP5_10ItSettles runs settled loops for as many ticks as their proofs have
// steps.
func TestP5_10ItSettles(t *testing.T) {
	rnd := rand.New(rand.NewSource(510))
	for _, x := range settled(rnd, 1500, randomLoop) {
		norm, e := gauge.CheckSettling(x.l, x.p)
		if e != api.OK {
			t.Fatal(x, e)
		}
		r := randomRun(rnd, x.l, x.p.Steps)
		clear(r.Disturbances)
		var start []*big.Rat
		for _, n := range r.Start {
			start = append(start, rat(n, 1))
		}
		end := append(mustRun(t, x.l, r), start[:max(0, len(start)-x.p.Steps)]...)
		slices.Reverse(end[:x.p.Steps])
		most := times(ratio(norm), weighted(start, x.p.Weights))
		if got := weighted(end[:len(start)], x.p.Weights); got.Cmp(most) > 0 {
			t.Fatal(x, r, got, most)
		}
		for n := x.p.Steps; n <= api.MaxGaugeTicks; n += x.p.Steps {
			g := growth(r.Start, randomTicks(rnd, x.l, n)...)
			if f, e := gauge.CheckGrowth(x.l, g); e != api.ErrProof && e != api.ErrZero {
				t.Fatal(x, g, f, e)
			}
		}
	}
}

// TestP5_10NoProofBesideAGrowth tries proofs for loops that grow.
func TestP5_10NoProofBesideAGrowth(t *testing.T) {
	rnd := rand.New(rand.NewSource(511))
	tried := 0
	for _, x := range growthsToTry(rnd, 20000) {
		if _, e := gauge.CheckGrowth(x.l, x.g); e != api.OK {
			continue
		}
		for steps := 1; steps <= len(x.g.Coefs); steps++ {
			p := randomProof(rnd, x.l)
			p.Steps = steps
			if _, e := gauge.CheckSettling(x.l, p); len(x.g.Coefs)%steps == 0 && e != api.ErrProof {
				t.Fatal(x, p, e)
			}
			tried++
		}
	}
	if tried < 1000 {
		t.Error("too few growths", tried)
	}
}

func TestP5_11NoFrequency(t *testing.T) {
	rnd := rand.New(rand.NewSource(5110))
	for _, x := range settled(rnd, 1500, randomExactLoop) {
		f, e := gauge.GainBound(x.l, x.p)
		if e == api.ErrLarge {
			continue
		}
		if e != api.OK {
			t.Fatal(x, e)
		}
		bound, swing := ratio(f), 1+rnd.Intn(api.MaxGaugeStart)
		r := randomRun(rnd, x.l, api.MaxGaugeTicks)
		clear(r.Start)
		r.Disturbances = randomNumbers(rnd, api.MaxGaugeTicks, swing)
		for _, y := range runByHand(x.l, r) {
			if sizeOf(y).Cmp(times(bound, rat(swing, 1))) > 0 {
				t.Fatal(x, r, y, bound)
			}
		}
		total := rat(0, 1)
		for _, y := range runByHand(x.l, pulse(x.l, 40)) {
			total = add(total, sizeOf(y))
		}
		if total.Cmp(bound) > 0 {
			t.Fatal(x, total, bound)
		}
	}
}
