package roll_test

import (
	"math"
	"math/big"
	"math/rand"
	"slices"
	"testing"

	"cobble/api"
	"cobble/roll"
)

// pairErrors are the errors of a record and two rolls, in their order.
func pairErrors(t *testing.T, call func(x []int, l [2]api.RollDrum) api.Errno) {
	t.Helper()
	var x []int
	l := pair(api.RollDrum{Name: "9", Period: 6}, api.RollDrum{Name: "", Period: 68, Offset: -1})
	wantErrors(t, func() api.Errno { return call(x, l) },
		step{api.ErrShape, func() { x = append(numbers(-1000001), make([]int, 240)...) }},
		step{api.ErrLarge, func() { x = x[:240] }},
		step{api.ErrRange, func() { x[0] = 0 }},
		step{api.ErrName, func() { l[0].Name = "a" }},
		step{api.ErrForm, func() { l[0].Period = 4 }},
		step{api.ErrName, func() { l[1].Name = "a" }},
		step{api.ErrRange, func() { l[1].Period = 7 }},
		step{api.ErrForm, func() { l[1].Period = 8 }},
		step{api.ErrRange, func() { l[1].Offset = 7 }})
}

func TestP6_4Errors(t *testing.T) {
	pairErrors(t, func(x []int, l [2]api.RollDrum) api.Errno { _, e := roll.FitOf(x, l); return e })
	pairErrors(t, func(x []int, l [2]api.RollDrum) api.Errno { _, e := roll.CheckFit(x, l, fit(1, 0, 0, 0, 0)); return e })
	pairErrors(t, func(x []int, l [2]api.RollDrum) api.Errno {
		_, e := roll.ErrorOf(x, l, [2]api.Gauss{})
		return e
	})
}

func TestP6_4FitOf(t *testing.T) {
	for i, x := range []struct {
		x    []int
		l    [2]api.RollDrum
		want api.RollFit
		err  api.Errno
	}{
		{bothWaves(), examplePair(), exampleFit(), api.OK}, {make([]int, 8), examplePair(), fit(1, 0, 0, 0, 0), api.OK}, {bothWaves(), pair(drum(8, 0), drum(4, 0)), fit(1, 2, 0, 3, 5), api.OK}, {numbers(1, 0, 0, 0, 0, 0, 0, 0), examplePair(), fit(4, 1, 0, 1, 0), api.OK},
		// all samples count, not whole turns alone
		{numbers(5, -3, -3, 5, 1, -7, -3), examplePair(), exampleFit(), api.OK}, {append(bothWaves(), 5, -3), examplePair(), exampleFit(), api.OK}, {append(bothWaves(), 99), examplePair(), fitOf(append(bothWaves(), 99), examplePair()), api.OK}, {numbers(1, 2, 3, 4, 5, 6), examplePair(), fitOf(numbers(1, 2, 3, 4, 5, 6), examplePair()), api.OK},
		// rolls of one name, and those of one period whose offsets differ by less than a quarter
		{bothWaves(), pair(drum(8, 0), drum(8, 1)), fitOf(bothWaves(), pair(drum(8, 0), drum(8, 1))), api.OK},
		{bothWaves(), pair(drum(4, 0), drum(4, 0)), api.RollFit{}, api.ErrNone}, {bothWaves(), pair(drum(4, 0), drum(4, 1)), api.RollFit{}, api.ErrNone}, {bothWaves(), pair(drum(8, 1), drum(8, 7)), api.RollFit{}, api.ErrNone}, {make([]int, 240), pair(drum(64, 63), drum(64, 15)), api.RollFit{}, api.ErrNone},
		// too few samples for four parts
		{numbers(1), examplePair(), api.RollFit{}, api.ErrNone}, {numbers(1, 2, 3), examplePair(), api.RollFit{}, api.ErrNone}, {numbers(1, 2, 3, 4), examplePair(), api.RollFit{}, api.ErrNone}, {make([]int, 16), pair(drum(4, 0), drum(64, 0)), api.RollFit{}, api.ErrNone},
	} {
		if f, e := roll.FitOf(x.x, x.l); f != x.want || e != x.err {
			t.Error(i, f, e)
		}
	}
}

// fitOf is the only fit.
func fitOf(x []int, l [2]api.RollDrum) api.RollFit {
	f, _ := fitByHand(x, l)
	return f
}

func TestP6_4CheckFit(t *testing.T) {
	const den, most = api.MaxRollDen, api.MaxRollFit
	for i, x := range []struct {
		f    api.RollFit
		want int
		err  api.Errno
	}{
		{exampleFit(), 0, api.OK},
		{fit(0, 3, 5, 2, 0), 0, api.ErrRange}, {fit(-1, 3, 5, 2, 0), 0, api.ErrRange}, {fit(den+1, 3, 5, 2, 0), 0, api.ErrRange}, {fit(math.MinInt, 3, 5, 2, 0), 0, api.ErrRange}, {fit(math.MaxInt, 3, 5, 2, 0), 0, api.ErrRange}, {api.RollFit{}, 0, api.ErrRange}, {fit(0, most+1, 0, 0, 0), 0, api.ErrRange},
		{fit(1, most+1, 5, 2, 0), 0, api.ErrRange}, {fit(1, 3, -most-1, 2, 0), 1, api.ErrRange}, {fit(1, 3, 5, math.MinInt, 0), 2, api.ErrRange}, {fit(1, 3, 5, 2, math.MaxInt), 3, api.ErrRange}, {fit(1, 3, most+1, 2, most+1), 1, api.ErrRange}, {fit(2, 2, 2, most+2, 2), 2, api.ErrRange},
		{fit(2, 6, 10, 4, 0), 0, api.ErrForm}, {fit(3, 0, 0, 0, 0), 0, api.ErrForm}, {fit(6, 2, 4, 2, 8), 0, api.ErrForm}, {fit(den, most, most, -most, 0), 0, api.ErrForm}, {fit(7, -7, 7, -7, 7), 0, api.ErrForm},
		{fit(1, 4, 5, 2, 0), 0, api.ErrProof}, {fit(1, 3, 4, 2, 0), 1, api.ErrProof}, {fit(1, 3, 5, 1, 0), 2, api.ErrProof}, {fit(1, 3, 5, 2, 1), 3, api.ErrProof}, {fit(1, 3, 5, 3, 1), 2, api.ErrProof}, {fit(2, 3, 5, 2, 0), 0, api.ErrProof}, {fit(1, -3, -5, -2, 0), 0, api.ErrProof},
		{fit(den, most, most, most, 1-most), 0, api.ErrProof}, {fit(den, -most, -most, -most, 1-most), 0, api.ErrProof}, {fit(den-1, 3, 5, 2, 0), 0, api.ErrProof}, {fit(1, 0, 0, 0, 0), 0, api.ErrProof},
	} {
		if at, e := roll.CheckFit(bothWaves(), examplePair(), x.f); at != x.want || e != x.err {
			t.Error(i, at, e)
		}
	}
	f := fit(0, most+1, 0, 2*most, 0)
	wantErrors(t, func() api.Errno { _, e := roll.CheckFit(bothWaves(), examplePair(), f); return e },
		step{api.ErrRange, func() { f.Den = 2 }},
		step{api.ErrRange, func() { f.Parts[0] = 6 }},
		step{api.ErrRange, func() { f.Parts[2] = 4 }},
		step{api.ErrForm, func() { f.Parts[1] = 5 }},
		step{api.ErrProof, func() { f.Parts[1] = 10 }},
		step{api.ErrForm, func() { f = exampleFit() }})
}

// TestP6_4GreatestSums has the greatest samples and parts at once.
func TestP6_4GreatestSums(t *testing.T) {
	const den, most = api.MaxRollDen, api.MaxRollFit
	x := slices.Repeat(numbers(1000000, -1000000, -1000000, 1000000), 60)
	for _, l := range [][2]api.RollDrum{pair(drum(4, 0), drum(64, 63)), pair(drum(4, 0), drum(4, 0)), pair(drum(64, 1), drum(60, 2))} {
		for _, f := range []api.RollFit{fit(den-1, most, most, most, most), fit(den-1, -most, -most, -most, -most), fit(den-1, -most, most, most, -most)} {
			want := slices.IndexFunc(slicesOf(equationsByHand(x, l, partsOf(f))), func(n *big.Rat) bool { return n.Sign() != 0 })
			if at, e := roll.CheckFit(x, l, f); at != want || e != api.ErrProof {
				t.Error(l, f, at, e, want)
			}
		}
	}
}

func slicesOf(l [4]*big.Rat) []*big.Rat {
	return l[:]
}

// TestP6_4SeveralFits has rolls that have more than one fit: each one that is
// reduced is accepted.
func TestP6_4SeveralFits(t *testing.T) {
	l := pair(drum(4, 0), drum(4, 0))
	x := exampleWave()
	for _, f := range []api.RollFit{fit(1, 3, 5, 0, 0), fit(1, 0, 0, 3, 5), fit(1, 1, 7, 2, -2), fit(2, 3, 5, 3, 5)} {
		if at, e := roll.CheckFit(x, l, f); at != 0 || e != api.OK {
			t.Error(f, at, e)
		}
	}
	if at, e := roll.CheckFit(x, l, fit(1, 3, 5, 0, 1)); at != 1 || e != api.ErrProof {
		t.Error(at, e)
	}
}

func TestP6_4ErrorOf(t *testing.T) {
	for i, x := range []struct {
		x    []int
		l    [2]api.RollDrum
		g    [2]api.Gauss
		want int
		err  api.Errno
	}{
		{bothWaves(), examplePair(), [2]api.Gauss{gauss(3, 5), {}}, 16, api.OK}, {bothWaves(), examplePair(), [2]api.Gauss{gauss(3, 5), gauss(2, 0)}, 0, api.OK}, {bothWaves(), examplePair(), [2]api.Gauss{{}, gauss(2, 0)}, 136, api.OK}, {bothWaves(), examplePair(), [2]api.Gauss{}, 152, api.OK}, {numbers(3), examplePair(), [2]api.Gauss{gauss(0, 9), gauss(1, 9)}, 4, api.OK}, {numbers(1, 1, 1, 1, 1), pair(drum(4, 0), drum(4, 0)), [2]api.Gauss{gauss(1, 0), gauss(1, 0)}, 13, api.OK},
		{slices.Repeat(numbers(-1000000, 1000000, 1000000, -1000000), 60), pair(drum(4, 0), drum(4, 0)), [2]api.Gauss{gauss(1000000, 1000000), gauss(1000000, 1000000)}, 240 * 9000000000000, api.OK},
		{bothWaves(), examplePair(), [2]api.Gauss{gauss(1000001, 0), {}}, 0, api.ErrRange}, {bothWaves(), examplePair(), [2]api.Gauss{gauss(0, -1000001), {}}, 0, api.ErrRange}, {bothWaves(), examplePair(), [2]api.Gauss{{}, gauss(math.MinInt, 0)}, 0, api.ErrRange}, {bothWaves(), examplePair(), [2]api.Gauss{{}, gauss(0, math.MaxInt)}, 0, api.ErrRange}, {bothWaves(), pair(drum(4, 0), drum(7, 0)), [2]api.Gauss{gauss(1000001, 0), {}}, 0, api.ErrForm},
	} {
		if n, e := roll.ErrorOf(x.x, x.l, x.g); n != x.want || e != x.err {
			t.Error(i, n, e)
		}
	}
}

// randomFitting is a record and two rolls, some of which have no fit.
func randomFitting(rnd *rand.Rand) ([]int, [2]api.RollDrum) {
	l := pair(randomDrum(rnd, api.MaxRollPeriod), randomDrum(rnd, api.MaxRollPeriod))
	if rnd.Intn(4) == 0 {
		l[1] = l[0]
		l[1].Offset = (l[0].Offset + randomFrom(rnd, 0, l[0].Period-1)) % l[0].Period
	}
	most := []int{12, 70, api.MaxRollSamples}[rnd.Intn(3)]
	return randomNumbers(rnd, randomFrom(rnd, 1, most), randomSize(rnd)), l
}

func TestP6_4FitsByHand(t *testing.T) {
	rnd := rand.New(rand.NewSource(64))
	seen := map[bool]int{}
	for range 1500 {
		x, l := randomFitting(rnd)
		want, is := fitByHand(x, l)
		seen[is]++
		wrong := api.OK
		if !is {
			wrong = api.ErrNone
		}
		f, e := roll.FitOf(x, l)
		if f != want || e != wrong {
			t.Fatal(x, l, f, e, want)
		}
		if is && f.Den > api.MaxRollDen {
			t.Fatal("the denominator is too great", x, l, f)
		}
		g := [2]api.Gauss{randomGauss(rnd, randomSize(rnd)), randomGauss(rnd, randomSize(rnd))}
		whole := partsOf(fit(1, g[0].Re, g[0].Im, g[1].Re, g[1].Im))
		if n, e := roll.ErrorOf(x, l, g); squaresByHand(x, l, whole).Cmp(rat(n, 1)) != 0 || e != api.OK {
			t.Fatal(x, l, g, n, e)
		}
	}
	wantSeen(t, seen, 200, true, false)
}

// TestP6_4EquationsByHand has fits of which some equations may not hold.
func TestP6_4EquationsByHand(t *testing.T) {
	rnd := rand.New(rand.NewSource(640))
	seen := map[int]int{}
	for range 1500 {
		x, l := randomFitting(rnd)
		f, is := fitByHand(x, l)
		if !is {
			continue
		}
		for range rnd.Intn(3) {
			f.Parts[rnd.Intn(4)] += randomFrom(rnd, -2, 2)
		}
		at, e := roll.CheckFit(x, l, f)
		if e == api.ErrForm {
			continue
		}
		want := slices.IndexFunc(slicesOf(equationsByHand(x, l, partsOf(f))), func(n *big.Rat) bool { return n.Sign() != 0 })
		seen[want]++
		if want < 0 && (at != 0 || e != api.OK) || want >= 0 && (at != want || e != api.ErrProof) {
			t.Fatal(x, l, f, at, e, want)
		}
	}
	wantSeen(t, seen, 100, -1, 0, 1)
	wantSeen(t, seen, 5, 2)
}

// TestP6_11TheOnlyFit changes a fit in each place.
func TestP6_11TheOnlyFit(t *testing.T) {
	rnd := rand.New(rand.NewSource(611))
	fits := 0
	for range 1500 {
		x, l := randomFitting(rnd)
		f, e := roll.FitOf(x, l)
		if e != api.OK {
			continue
		}
		fits++
		if at, e := roll.CheckFit(x, l, f); at != 0 || e != api.OK {
			t.Fatal(x, l, f, at, e)
		}
		for _, by := range []int{-1, 1, randomFrom(rnd, 2, 1000)} {
			others := []api.RollFit{{Den: f.Den + by, Parts: f.Parts}}
			for i := range f.Parts {
				other := f
				other.Parts[i] += by
				others = append(others, other)
			}
			for _, other := range others {
				isSame := f.Parts == [4]int{} && other.Parts == f.Parts // no part depends on Den
				if _, e := roll.CheckFit(x, l, other); e == api.OK && !isSame {
					t.Fatal("another fit is accepted", x, l, f, other)
				}
			}
		}
	}
	if fits < 500 {
		t.Error("too few fits", fits)
	}
}

func TestP6_11TheBestFit(t *testing.T) {
	rnd := rand.New(rand.NewSource(6110))
	for range 800 {
		x, l := randomFitting(rnd)
		f, e := roll.FitOf(x, l)
		if e != api.OK {
			continue
		}
		least := squaresByHand(x, l, partsOf(f))
		for range 8 {
			// near the fit, and far from it
			var parts [4]int
			for i, n := range f.Parts {
				near := n/f.Den + randomFrom(rnd, -1, 1)
				parts[i] = max(-api.MaxRollPart, min(api.MaxRollPart, near))
			}
			g := [2]api.Gauss{gauss(parts[0], parts[1]), gauss(parts[2], parts[3])}
			if rnd.Intn(4) == 0 {
				g[rnd.Intn(2)] = randomGauss(rnd, api.MaxRollPart)
			}
			if n, e := roll.ErrorOf(x, l, g); e != api.OK || least.Cmp(rat(n, 1)) > 0 {
				t.Fatal(x, l, f, g, n, e)
			}
			// and real amplitudes
			other := partsOf(f)
			for i := range other {
				other[i].Add(other[i], rat(randomFrom(rnd, -3, 3), randomFrom(rnd, 1, 7)))
			}
			if least.Cmp(squaresByHand(x, l, other)) > 0 {
				t.Fatal(x, l, f, other)
			}
		}
	}
}
