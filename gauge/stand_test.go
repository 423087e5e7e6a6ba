package gauge_test

import (
	"math"
	"math/big"
	"math/rand"
	"testing"

	"cobble/api"
	"cobble/gauge"
)

// TestP5_1StandLimits sets one end of a valid stand at a time.
func TestP5_1StandLimits(t *testing.T) {
	type set = func(s *api.GaugeStand, n int)
	soft := func(s *api.GaugeStand, n int) { s.Modulus.Lo = n }
	stiff := func(s *api.GaugeStand, n int) { s.Modulus.Hi = n }
	least := func(s *api.GaugeStand, n int) { s.Plastic.Lo = n }
	most := func(s *api.GaugeStand, n int) { s.Plastic.Hi = n }
	for i, x := range []struct {
		set  set
		n    int
		want api.Errno
	}{
		{soft, 1, api.OK}, {soft, 0, api.ErrRange}, {soft, 400, api.OK}, {soft, 401, api.ErrOrder}, {soft, 1000, api.ErrOrder}, {soft, 1001, api.ErrRange}, {soft, -1, api.ErrRange}, {soft, math.MinInt, api.ErrRange},
		{stiff, 1000, api.OK}, {stiff, 1001, api.ErrRange}, {stiff, 300, api.OK}, {stiff, 299, api.ErrOrder}, {stiff, 1, api.ErrOrder}, {stiff, 0, api.ErrRange}, {stiff, math.MaxInt, api.ErrRange},
		{least, 0, api.OK}, {least, -1, api.ErrRange}, {least, 100, api.OK}, {least, 101, api.ErrOrder}, {least, 1001, api.ErrRange}, {least, math.MinInt, api.ErrRange},
		{most, 1000, api.OK}, {most, 1001, api.ErrRange}, {most, 100, api.OK}, {most, 99, api.ErrOrder}, {most, 0, api.ErrOrder}, {most, -1, api.ErrRange}, {most, math.MaxInt, api.ErrRange},
	} {
		s := exampleStand()
		x.set(&s, x.n)
		if e := gauge.CheckStand(s); e != x.want {
			t.Error(i, e)
		}
	}
	for _, s := range []api.GaugeStand{stand(ends(1, 1), ends(0, 0)), stand(ends(1000, 1000), ends(1000, 1000)), stand(ends(1, 1000), ends(0, 1000))} {
		if e := gauge.CheckStand(s); e != api.OK {
			t.Error(s, e)
		}
	}
}

func TestP5_1StandErrorsInTheirOrder(t *testing.T) {
	s := stand(ends(1001, 400), ends(200, -1))
	wantErrors(t, func() api.Errno { return gauge.CheckStand(s) },
		step{api.ErrRange, func() { s.Modulus.Lo = 401 }},
		step{api.ErrRange, func() { s.Plastic.Hi = 100 }},
		step{api.ErrOrder, func() { s.Modulus.Lo = 400 }},
		step{api.ErrOrder, func() { s.Plastic.Lo = 100 }})
	x := pass(-1, 0)
	s = stand(ends(401, 400), ends(100, 100))
	wantErrors(t, func() api.Errno { _, e := gauge.ExitSpan(s, x); return e },
		step{api.ErrOrder, func() { s.Modulus.Lo = 300 }},
		step{api.ErrRange, func() { x.Gap = 0 }},
		step{api.ErrRange, func() { x.Entry = 1 }})
	s.Plastic.Hi = 99
	entry, exit := 0, 100001
	wantErrors(t, func() api.Errno { _, e := gauge.GapSpan(s, entry, exit); return e },
		step{api.ErrOrder, func() { s.Plastic.Hi = 100 }},
		step{api.ErrRange, func() { entry = 1 }},
		step{api.ErrRange, func() { exit = 2 }},
		step{api.ErrOrder, func() { exit = 1 }})
}

func TestP5_1ExitOf(t *testing.T) {
	for i, x := range []struct {
		modulus, plastic int
		x                api.GaugePass
		want             api.Frac
		err              api.Errno
	}{
		{400, 100, examplePass(), whole(2500), api.OK}, {300, 100, examplePass(), whole(2625), api.OK},
		// a strip without stiffness has the gap
		{400, 0, examplePass(), whole(2000), api.OK}, {1, 0, pass(0, 100000), whole(0), api.OK}, {1000, 0, pass(100000, 1), whole(100000), api.OK},
		// a gap that is greater than the entry thickness gives something between both
		{1, 2, pass(300, 100), frac(500, 3), api.OK}, {400, 100, pass(4500, 4500), whole(4500), api.OK},
		{1, 1, pass(0, 1), frac(1, 2), api.OK}, {3, 4, pass(5, 6), frac(39, 7), api.OK}, {999, 1000, pass(99999, 100000), frac(199899001, 1999), api.OK}, {1000, 1000, pass(100000, 100000), whole(100000), api.OK}, {1000, 6, pass(0, 1), frac(3, 503), api.OK},
		{0, 100, examplePass(), api.Frac{}, api.ErrRange}, {1001, 100, examplePass(), api.Frac{}, api.ErrRange}, {-1, 100, examplePass(), api.Frac{}, api.ErrRange}, {400, -1, examplePass(), api.Frac{}, api.ErrRange}, {400, 1001, examplePass(), api.Frac{}, api.ErrRange},
		{400, 100, pass(-1, 4500), api.Frac{}, api.ErrRange}, {400, 100, pass(100001, 4500), api.Frac{}, api.ErrRange}, {400, 100, pass(2000, 0), api.Frac{}, api.ErrRange}, {400, 100, pass(2000, 100001), api.Frac{}, api.ErrRange},
		{math.MinInt, 100, examplePass(), api.Frac{}, api.ErrRange}, {400, math.MaxInt, examplePass(), api.Frac{}, api.ErrRange}, {400, 100, pass(math.MaxInt, math.MaxInt), api.Frac{}, api.ErrRange}, {400, 100, pass(2000, math.MinInt), api.Frac{}, api.ErrRange},
	} {
		if f, e := gauge.ExitOf(x.modulus, x.plastic, x.x); f != x.want || e != x.err {
			t.Error(i, f, e)
		}
	}
}

func TestP5_1Spans(t *testing.T) {
	for i, x := range []struct {
		s    api.GaugeStand
		x    api.GaugePass
		want api.Span
	}{
		{exampleStand(), examplePass(), span(whole(2500), whole(2625))},
		{stand(ends(300, 400), ends(0, 100)), examplePass(), span(whole(2000), whole(2625))},
		{stand(ends(1, 1000), ends(0, 1000)), pass(0, 1000), span(whole(0), frac(1000000, 1001))},
		{stand(ends(1, 1000), ends(1, 1000)), pass(1000, 1), span(frac(2000, 1001), frac(1000001, 1001))},
		{stand(ends(7, 9), ends(5, 6)), pass(70, 70), span(whole(70), whole(70))},
		{stand(ends(5, 5), ends(0, 0)), pass(3, 8), span(whole(3), whole(3))},
	} {
		if got, e := gauge.ExitSpan(x.s, x.x); got != x.want || e != api.OK {
			t.Error(i, got, e)
		}
	}
	for i, x := range []struct {
		s           api.GaugeStand
		entry, exit int
		want        api.Span
		err         api.Errno
	}{
		{exampleStand(), 4500, 2500, span(frac(5500, 3), whole(2000)), api.OK},
		{stand(ends(300, 400), ends(0, 100)), 4500, 2500, span(frac(5500, 3), whole(2500)), api.OK},
		// a gap may be below 0
		{stand(ends(1, 2), ends(1, 2)), 100, 10, span(whole(-170), whole(-35)), api.OK}, {stand(ends(1, 1), ends(1000, 1000)), 100000, 1, span(whole(-99998999), whole(-99998999)), api.OK}, {stand(ends(7, 7), ends(3, 3)), 9, 4, span(frac(13, 7), frac(13, 7)), api.OK}, {stand(ends(7, 7), ends(3, 3)), 9, 2, span(whole(-1), whole(-1)), api.OK},
		// nothing is rolled
		{exampleStand(), 2500, 2500, span(whole(2500), whole(2500)), api.OK}, {exampleStand(), 100000, 100000, span(whole(100000), whole(100000)), api.OK},
		{exampleStand(), 2500, 2501, api.Span{}, api.ErrOrder}, {exampleStand(), 0, 1, api.Span{}, api.ErrRange}, {exampleStand(), 1, 0, api.Span{}, api.ErrRange}, {exampleStand(), 100001, 1, api.Span{}, api.ErrRange}, {exampleStand(), 1, 100001, api.Span{}, api.ErrRange}, {exampleStand(), math.MaxInt, math.MinInt, api.Span{}, api.ErrRange},
	} {
		if got, e := gauge.GapSpan(x.s, x.entry, x.exit); got != x.want || e != x.err {
			t.Error(i, got, e)
		}
	}
}

// widen is the minimum and the maximum so far, and another number.
func widen(lo, hi, x *big.Rat) (*big.Rat, *big.Rat) {
	if lo == nil || x.Cmp(lo) < 0 {
		lo = x
	}
	if hi == nil || x.Cmp(hi) > 0 {
		hi = x
	}
	return lo, hi
}

// nearStand has few moduli and stiffnesses in its ranges.
func nearStand(rnd *rand.Rand) api.GaugeStand {
	modulus, plastic := randomFrom(rnd, 1, 995), randomFrom(rnd, 0, 995)
	return stand(ends(modulus, modulus+rnd.Intn(6)), ends(plastic, plastic+rnd.Intn(6)))
}

func TestP5_1SpansByHand(t *testing.T) {
	rnd := rand.New(rand.NewSource(51))
	for range 300 {
		s := nearStand(rnd)
		x := pass(randomFrom(rnd, 0, 100000), randomFrom(rnd, 1, 100000))
		entry, exit := x.Entry, randomFrom(rnd, 1, x.Entry)
		var least, most, lower, upper *big.Rat
		for modulus := s.Modulus.Lo; modulus <= s.Modulus.Hi; modulus++ {
			for plastic := s.Plastic.Lo; plastic <= s.Plastic.Hi; plastic++ {
				h := exitByHand(modulus, plastic, rat(x.Gap, 1), rat(x.Entry, 1))
				if got := mustExit(t, modulus, plastic, x); got.Cmp(h) != 0 {
					t.Fatal(modulus, plastic, x, got, h)
				}
				least, most = widen(least, most, h)
				lower, upper = widen(lower, upper, gapByHand(modulus, plastic, entry, exit))
			}
		}
		if got, e := gauge.ExitSpan(s, x); e != api.OK || ratio(got.Lo).Cmp(least) != 0 || ratio(got.Hi).Cmp(most) != 0 {
			t.Fatal(s, x, got, e, least, most)
		}
		if got, e := gauge.GapSpan(s, entry, exit); e != api.OK || ratio(got.Lo).Cmp(lower) != 0 || ratio(got.Hi).Cmp(upper) != 0 {
			t.Fatal(s, entry, exit, got, e, lower, upper)
		}
	}
}

func TestP5_1MassFlow(t *testing.T) {
	for i, x := range []struct {
		speeds, exits, want []int
		err                 api.Errno
	}{
		{numbers(100, 200, 250), numbers(50, 25, 21), numbers(0, 0, 250), api.OK},
		{numbers(7), numbers(3), numbers(0), api.OK}, {numbers(0, 5, 0), numbers(100000, 1, 9), numbers(0, 5, 0), api.OK}, {numbers(5, 3), numbers(2, 1), numbers(0, -7), api.OK}, {numbers(0, 100000), numbers(1, 100000), numbers(0, 10000000000), api.OK}, {numbers(100000, 0), numbers(100000, 1), numbers(0, -10000000000), api.OK},
		{make([]int, 8), numbers(1, 2, 3, 4, 5, 6, 7, 8), make([]int, 8), api.OK}, {make([]int, 9), make([]int, 9), nil, api.ErrLarge}, {make([]int, 9), make([]int, 8), nil, api.ErrShape}, {make([]int, 8), make([]int, 9), nil, api.ErrShape}, {make([]int, 9), nil, nil, api.ErrShape},
		{nil, nil, nil, api.ErrShape}, {nil, numbers(1), nil, api.ErrShape}, {numbers(1), nil, nil, api.ErrShape}, {numbers(-1, 2), numbers(1), nil, api.ErrShape},
		{numbers(-1), numbers(1), nil, api.ErrRange}, {numbers(100001), numbers(1), nil, api.ErrRange}, {numbers(1), numbers(0), nil, api.ErrRange}, {numbers(1), numbers(100001), nil, api.ErrRange}, {numbers(1, 1), numbers(1, -1), nil, api.ErrRange}, {numbers(1, math.MaxInt), numbers(1, math.MinInt), nil, api.ErrRange},
	} {
		if got, e := gauge.MassFlow(x.speeds, x.exits); !alike(got, x.want) || e != x.err {
			t.Error(i, got, e)
		}
	}
}

// TestP5_9ForEveryModulus takes moduli and stiffnesses of wide ranges.
func TestP5_9ForEveryModulus(t *testing.T) {
	rnd := rand.New(rand.NewSource(59))
	wholeGaps := 0
	for range 3000 {
		s := stand(randomEnds(rnd, 1, 1000), randomEnds(rnd, 0, 1000))
		x := pass(randomFrom(rnd, 0, 100000), randomFrom(rnd, 1, 100000))
		all, e := gauge.ExitSpan(s, x)
		modulus, plastic := randomIn(rnd, s.Modulus), randomIn(rnd, s.Plastic)
		if h := mustExit(t, modulus, plastic, x); e != api.OK || h.Cmp(ratio(all.Lo)) < 0 || h.Cmp(ratio(all.Hi)) > 0 {
			t.Fatal(s, x, modulus, plastic, h, all, e)
		}
		exit := randomFrom(rnd, 1, x.Entry)
		gaps, e := gauge.GapSpan(stand(ends(modulus, modulus), ends(plastic, plastic)), x.Entry, exit)
		if e != api.OK || gaps.Lo != gaps.Hi {
			t.Fatal(modulus, plastic, x.Entry, exit, gaps, e)
		}
		if h := exitByHand(modulus, plastic, ratio(gaps.Lo), rat(x.Entry, 1)); h.Cmp(rat(exit, 1)) != 0 {
			t.Fatal(modulus, plastic, x.Entry, exit, gaps, h)
		}
		if gaps.Lo.Den == 1 && gaps.Lo.Num >= 0 {
			wholeGaps++
			if h := mustExit(t, modulus, plastic, pass(gaps.Lo.Num, x.Entry)); h.Cmp(rat(exit, 1)) != 0 {
				t.Fatal(modulus, plastic, x.Entry, exit, gaps, h)
			}
		}
	}
	if wholeGaps < 100 {
		t.Error("too few whole gaps", wholeGaps)
	}
}
