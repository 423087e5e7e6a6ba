package roll_test

import (
	"math"
	"math/rand"
	"slices"
	"testing"

	"cobble/api"
	"cobble/roll"
)

// recordErrors are the errors of records and rolls, in their order.
func recordErrors(t *testing.T, call func(x []int, d api.RollDrum) api.Errno) {
	t.Helper()
	var x []int
	d := api.RollDrum{Name: "9", Period: 3, Offset: -1}
	wantErrors(t, func() api.Errno { return call(x, d) },
		step{api.ErrShape, func() { x = append(numbers(1000001), make([]int, 240)...) }},
		step{api.ErrLarge, func() { x = x[:240] }},
		step{api.ErrRange, func() { x[0] = -1000001 }},
		step{api.ErrRange, func() { x[0] = -1000000 }},
		step{api.ErrName, func() { d.Name = "b" }},
		step{api.ErrRange, func() { d.Period = 66 }},
		step{api.ErrRange, func() { d.Period = 62 }},
		step{api.ErrForm, func() { d.Period = 64 }},
		step{api.ErrRange, func() { d.Offset = 64 }},
		step{api.ErrRange, func() { d.Offset = 63 }})
}

func TestP6_2Errors(t *testing.T) {
	recordErrors(t, func(x []int, d api.RollDrum) api.Errno { _, e := roll.SumOf(x, d); return e })
	recordErrors(t, func(x []int, d api.RollDrum) api.Errno { _, e := roll.AmplitudeOf(x, d); return e })
	recordErrors(t, func(x []int, d api.RollDrum) api.Errno { _, e := roll.SteadyOf(x, d); return e })
	recordErrors(t, func(x []int, d api.RollDrum) api.Errno { _, e := roll.HarmonicsOf(x, d); return e })
	recordErrors(t, func(x []int, d api.RollDrum) api.Errno { _, e := roll.NearestOf(x, d); return e })
}

// TestP6_2ShortRecords has records that are just long enough, and shorter ones.
func TestP6_2ShortRecords(t *testing.T) {
	for period := 4; period <= api.MaxRollPeriod; period += 4 {
		for n := 1; n <= 2*period; n++ {
			x, d := make([]int, n), drum(period, period-1)
			want, steady := api.OK, api.OK
			if n < period {
				want = api.ErrShape
			}
			if 2*n < 3*period {
				steady = api.ErrShape
			}
			_, a := roll.SumOf(x, d)
			_, b := roll.AmplitudeOf(x, d)
			_, c := roll.HarmonicsOf(x, d)
			_, f := roll.NearestOf(x, d)
			_, g := roll.Run(x, d)
			_, h := roll.SteadyOf(x, d)
			if !alike([]api.Errno{a, b, c, f, g, h}, []api.Errno{want, want, want, want, want, steady}) {
				t.Fatal(period, n, a, b, c, f, g, h)
			}
		}
	}
}

func TestP6_2Amplitudes(t *testing.T) {
	for i, x := range []struct {
		x    []int
		d    api.RollDrum
		sum  api.Gauss
		want api.RollAmplitude
	}{
		{exampleWave(), exampleDrum(), gauss(6, 10), wholeAmplitude(3, 5)}, {risingWave(), exampleDrum(), gauss(2, 14), wholeAmplitude(1, 7)},
		// the samples after the whole turns do not matter
		{numbers(3, -5, -3, 5, 99, 98, 97), exampleDrum(), gauss(6, 10), wholeAmplitude(3, 5)}, {numbers(3, -5, -3, 5, 3, -5, -3, 5, 99), exampleDrum(), gauss(12, 20), wholeAmplitude(3, 5)},
		{slices.Repeat(numbers(7), 9), drum(8, 3), gauss(0, 0), wholeAmplitude(0, 0)}, {numbers(1, 0, 0, 0), exampleDrum(), gauss(1, 0), amplitude(frac(1, 2), frac(0, 1))}, {numbers(0, 1, 0, 0), exampleDrum(), gauss(0, -1), amplitude(frac(0, 1), frac(-1, 2))}, {numbers(0, 0, 1, 0), exampleDrum(), gauss(-1, 0), amplitude(frac(-1, 2), frac(0, 1))}, {numbers(0, 0, 0, 1), exampleDrum(), gauss(0, 1), amplitude(frac(0, 1), frac(1, 2))},
		{numbers(1, 0, 0, 0, 0, 0, 0, 0, 0, 0, 0, 2), drum(12, 0), gauss(1, 2), amplitude(frac(1, 6), frac(1, 3))}, {numbers(1, 0, 0, 0, 0, 0, 0, 0, 0, 0, 0, 2), drum(12, 1), gauss(3, 0), amplitude(frac(1, 2), frac(0, 1))},
		{slices.Repeat(numbers(1000000, -1000000, -1000000, 1000000), 60), exampleDrum(), gauss(120000000, 120000000), wholeAmplitude(1000000, 1000000)},
	} {
		if s, e := roll.SumOf(x.x, x.d); s != x.sum || e != api.OK {
			t.Error(i, s, e)
		}
		if a, e := roll.AmplitudeOf(x.x, x.d); a != x.want || e != api.OK {
			t.Error(i, a, e)
		}
	}
}

func TestP6_2SteadyOf(t *testing.T) {
	for i, x := range []struct {
		x    []int
		d    api.RollDrum
		want api.RollAmplitude
	}{
		{risingWave(), exampleDrum(), wholeAmplitude(3, 5)}, {numbers(3, -5, -3, 5, 3, -5), exampleDrum(), wholeAmplitude(3, 5)}, {numbers(0, 1, 2, 3, 4, 5), exampleDrum(), wholeAmplitude(0, 0)}, {numbers(1, 0, 0, 0, 0, 0), exampleDrum(), amplitude(frac(1, 4), frac(0, 1))}, {numbers(0, 0, 1, 0, 0, 0), exampleDrum(), amplitude(frac(-1, 2), frac(0, 1))}, {numbers(0, 0, 0, 0, 0, 3), exampleDrum(), amplitude(frac(0, 1), frac(-3, 4))},
		// differences after the whole turns do not matter
		{numbers(13, 7, 11, 21, 21, 15, 99, 98, 97), exampleDrum(), wholeAmplitude(3, 5)}, {numbers(0, 0, 0, 0, 0, 0, 0, 0, 0, 1), exampleDrum(), amplitude(frac(0, 1), frac(-1, 8))},
		{slices.Repeat(numbers(1000000, -1000000, -1000000, 1000000), 60), exampleDrum(), wholeAmplitude(1000000, 1000000)},
	} {
		if a, e := roll.SteadyOf(x.x, x.d); a != x.want || e != api.OK {
			t.Error(i, a, e)
		}
	}
}

func TestP6_2HarmonicsOf(t *testing.T) {
	for i, x := range []struct {
		x    []int
		d    api.RollDrum
		want [4]api.Gauss
	}{
		{exampleWave(), exampleDrum(), [4]api.Gauss{{}, gauss(6, 10), {}, gauss(6, -10)}}, {numbers(1, 2, 3, 4), exampleDrum(), [4]api.Gauss{gauss(10, 0), gauss(-2, 2), gauss(-2, 0), gauss(-2, -2)}}, {numbers(1, 2, 3, 4, 99), drum(4, 1), [4]api.Gauss{gauss(10, 0), gauss(2, 2), gauss(2, 0), gauss(2, -2)}}, {slices.Repeat(numbers(-7), 8), drum(8, 0), [4]api.Gauss{gauss(-56, 0), {}, {}, {}}},
	} {
		if h, e := roll.HarmonicsOf(x.x, x.d); h != x.want || e != api.OK {
			t.Error(i, h, e)
		}
	}
}

func TestP6_2QuartersOf(t *testing.T) {
	const most = api.MaxPart
	for i, x := range []struct {
		h    [4]api.Gauss
		want [4]int
		err  api.Errno
	}{
		{[4]api.Gauss{{}, gauss(6, 10), {}, gauss(6, -10)}, [4]int{3, -5, -3, 5}, api.OK}, {[4]api.Gauss{gauss(10, 0), gauss(-2, 2), gauss(-2, 0), gauss(-2, -2)}, [4]int{1, 2, 3, 4}, api.OK}, {[4]api.Gauss{}, [4]int{}, api.OK}, {[4]api.Gauss{gauss(4, 0)}, [4]int{1, 1, 1, 1}, api.OK},
		{[4]api.Gauss{gauss(most, 0), gauss(most, 0), gauss(most, 0), gauss(most, 0)}, [4]int{most, 0, 0, 0}, api.OK}, {[4]api.Gauss{gauss(-most, 0), gauss(0, most), gauss(most, 0), gauss(0, -most)}, [4]int{0, -most, 0, 0}, api.OK},
		{[4]api.Gauss{gauss(1, 0)}, [4]int{}, api.ErrForm}, {[4]api.Gauss{gauss(2, 0)}, [4]int{}, api.ErrForm}, {[4]api.Gauss{gauss(-3, 0)}, [4]int{}, api.ErrForm}, {[4]api.Gauss{gauss(0, 4)}, [4]int{}, api.ErrForm}, {[4]api.Gauss{gauss(1, 0), gauss(1, 0), gauss(1, 0)}, [4]int{}, api.ErrForm},
		// the first sum is whole, later ones are not
		{[4]api.Gauss{{}, gauss(4, 0)}, [4]int{}, api.ErrForm}, {[4]api.Gauss{gauss(2, 0), gauss(2, 0)}, [4]int{}, api.ErrForm}, {[4]api.Gauss{{}, gauss(0, 4), {}, gauss(0, -2)}, [4]int{}, api.ErrForm}, {[4]api.Gauss{{}, gauss(6, 10), {}, gauss(6, 10)}, [4]int{}, api.ErrForm}, {[4]api.Gauss{gauss(1, 0), {}, gauss(3, 0)}, [4]int{}, api.ErrForm},
		{[4]api.Gauss{gauss(most+1, 0)}, [4]int{}, api.ErrRange}, {[4]api.Gauss{gauss(-most-1, 0)}, [4]int{}, api.ErrRange}, {[4]api.Gauss{gauss(1, 0), {}, {}, gauss(0, most+1)}, [4]int{}, api.ErrRange}, {[4]api.Gauss{gauss(1, 1), {}, gauss(0, -most-1)}, [4]int{}, api.ErrRange}, {[4]api.Gauss{{}, gauss(math.MinInt, 0)}, [4]int{}, api.ErrRange}, {[4]api.Gauss{{}, gauss(0, math.MaxInt)}, [4]int{}, api.ErrRange},
	} {
		if s, e := roll.QuartersOf(x.h); s != x.want || e != x.err {
			t.Error(i, s, e)
		}
	}
}

func TestP6_2NearestOf(t *testing.T) {
	for i, x := range []struct {
		x    []int
		d    api.RollDrum
		want api.Gauss
	}{
		{numbers(1, 0, 0, 0), exampleDrum(), gauss(0, 0)}, {numbers(3, 0, 0, 0), exampleDrum(), gauss(1, 0)}, {numbers(-1, 0, 0, 0), exampleDrum(), gauss(0, 0)}, {numbers(-3, 0, 0, 0), exampleDrum(), gauss(-1, 0)}, {numbers(0, 0, 0, 5), exampleDrum(), gauss(0, 2)}, {numbers(0, 5, 0, 0), exampleDrum(), gauss(0, -2)}, {exampleWave(), exampleDrum(), gauss(3, 5)},
		// 1/4, 2/4, 3/4, 4/4, 5/4, 6/4 and 7/4
		{numbers(1, 0, 0, 0, 0, 0, 0, 1), drum(8, 0), gauss(0, 0)}, {numbers(2, 0, 0, 0, 0, 0, 0, -2), drum(8, 0), gauss(0, 0)}, {numbers(3, 0, 0, 0, 0, 0, 0, -3), drum(8, 0), gauss(1, -1)}, {numbers(4, 0, 0, 0, 0, 0, 0, -4), drum(8, 0), gauss(1, -1)}, {numbers(5, 0, 0, 0, 0, 0, 0, -5), drum(8, 0), gauss(1, -1)}, {numbers(6, 0, 0, 0, 0, 0, 0, -6), drum(8, 0), gauss(1, -1)}, {numbers(7, 0, 0, 0, 0, 0, 0, -7), drum(8, 0), gauss(2, -2)},
		{numbers(1000000, -1000000, -1000000, 999999), exampleDrum(), gauss(1000000, 999999)},
	} {
		if g, e := roll.NearestOf(x.x, x.d); g != x.want || e != api.OK {
			t.Error(i, g, e)
		}
	}
}

func TestP6_2RecordsByHand(t *testing.T) {
	rnd := rand.New(rand.NewSource(62))
	for range 4000 {
		d := randomDrum(rnd, api.MaxRollPeriod)
		x := randomRecord(rnd, d.Period, randomSize(rnd))
		if s, e := roll.SumOf(x, d); s != sumByHand(x, d) || e != api.OK {
			t.Fatal(x, d, s, e)
		}
		re, im := amplitudeByHand(x, d)
		if a, e := roll.AmplitudeOf(x, d); a != amplitude(fracOf(re), fracOf(im)) || e != api.OK {
			t.Fatal(x, d, a, e)
		}
		if g, e := roll.NearestOf(x, d); g != gauss(nearestByHand(re), nearestByHand(im)) || e != api.OK {
			t.Fatal(x, d, g, e)
		}
		if h, e := roll.HarmonicsOf(x, d); h != harmonicsByHand(quartersByHand(x, d)) || e != api.OK {
			t.Fatal(x, d, h, e)
		}
		if 2*len(x) < 3*d.Period {
			continue
		}
		re, im = steadyByHand(x, d)
		if a, e := roll.SteadyOf(x, d); a != amplitude(fracOf(re), fracOf(im)) || e != api.OK {
			t.Fatal(x, d, a, e)
		}
	}
}

func TestP6_3Cancelled(t *testing.T) {
	for i, x := range []struct {
		x    []int
		d    api.RollDrum
		g    api.Gauss
		want []int
		err  api.Errno
	}{
		{exampleWave(), exampleDrum(), gauss(3, 5), make([]int, 4), api.OK}, {exampleWave(), exampleDrum(), gauss(0, 0), exampleWave(), api.OK}, {numbers(1, 2, 3, 4, 5), exampleDrum(), gauss(1, -1), numbers(0, 1, 4, 5, 4), api.OK}, {numbers(1, 2), drum(8, 6), gauss(1, -1), numbers(2, 3), api.OK},
		// a record may be shorter than a turn, and a sample greater than in a record
		{numbers(7), drum(64, 0), gauss(9, 9), numbers(-2), api.OK}, {numbers(1000000, 0, -1000000), exampleDrum(), gauss(-1000000, 0), numbers(2000000, 0, -2000000), api.OK},
		{exampleWave(), exampleDrum(), gauss(1000001, 0), nil, api.ErrRange}, {exampleWave(), exampleDrum(), gauss(0, -1000001), nil, api.ErrRange}, {exampleWave(), exampleDrum(), gauss(math.MinInt, math.MaxInt), nil, api.ErrRange}, {exampleWave(), drum(6, 0), gauss(1000001, 0), nil, api.ErrForm}, {nil, drum(6, 0), gauss(1000001, 0), nil, api.ErrShape},
	} {
		if l, e := roll.Cancelled(x.x, x.d, x.g); !alike(l, x.want) || e != x.err {
			t.Error(i, l, e)
		}
	}
	recordErrors(t, func(x []int, d api.RollDrum) api.Errno { _, e := roll.Cancelled(x, d, gauss(1, 1)); return e })
	g := gauss(-1000001, 1000001)
	wantErrors(t, func() api.Errno { _, e := roll.Cancelled(numbers(1), drum(64, 0), g); return e },
		step{api.ErrRange, func() { g.Re = 1000000 }},
		step{api.ErrRange, func() { g.Im = -1000000 }})
}

func TestP6_3Run(t *testing.T) {
	for i, x := range []struct {
		x    []int
		d    api.RollDrum
		want []int
		err  api.Errno
	}{
		{numbers(3, -5, -3, 5, 3, -5, -3, 5, 4), exampleDrum(), numbers(3, -5, -3, 5, 0, 0, 0, 0, 1), api.OK}, {exampleWave(), exampleDrum(), exampleWave(), api.OK},
		// the amplitude is that of the turn before as it was recorded, not as it was left
		{numbers(4, 0, 0, 0, 4, 0, 0, 0, 4, 0, 0, 0), exampleDrum(), numbers(4, 0, 0, 0, 2, 0, 2, 0, 2, 0, 2, 0), api.OK}, {numbers(8, 0, 0, 0, 0, 0, 0, 0, 0, 0, 0, 0), exampleDrum(), numbers(8, 0, 0, 0, -4, 0, 4, 0, 0, 0, 0, 0), api.OK},
		{numbers(2, 0, 0, 0, 0, 0, 0), drum(4, 3), numbers(2, 0, 0, 0, -1, 0, 1), api.OK}, {numbers(0, 0, 0, 8, 0, 0, 0, 0, 1), drum(8, 1), numbers(0, 0, 0, 8, 0, 0, 0, 0, 3), api.OK}, {numbers(0, 0, 0, 16, 0, 0, 0, 0, 1, 1), drum(8, 1), numbers(0, 0, 0, 16, 0, 0, 0, 0, 5, 1), api.OK},
		{numbers(1000000, -1000000, -1000000, 1000000, -1000000, 1000000), exampleDrum(), numbers(1000000, -1000000, -1000000, 1000000, -2000000, 2000000), api.OK},
		{numbers(1, 2, 3), exampleDrum(), nil, api.ErrShape}, {make([]int, 63), drum(64, 0), nil, api.ErrShape}, {make([]int, 3), drum(4, 4), nil, api.ErrRange},
	} {
		if l, e := roll.Run(x.x, x.d); !alike(l, x.want) || e != x.err {
			t.Error(i, l, e)
		}
	}
	recordErrors(t, func(x []int, d api.RollDrum) api.Errno { _, e := roll.Run(x, d); return e })
}

func TestP6_3ByHand(t *testing.T) {
	rnd := rand.New(rand.NewSource(63))
	for range 1500 {
		d := randomDrum(rnd, api.MaxRollPeriod)
		x, g := randomRecord(rnd, d.Period, randomSize(rnd)), randomGauss(rnd, randomSize(rnd))
		if l, e := roll.Cancelled(x, d, g); !alike(l, minus(x, waveByHand(d, g, len(x)))) || e != api.OK {
			t.Fatal(x, d, g, l, e)
		}
		if l, e := roll.Run(x, d); !alike(l, runByHand(x, d)) || e != api.OK {
			t.Fatal(x, d, l, e)
		}
	}
}

// mustWave is at least so many samples of a wave.
func mustWave(t *testing.T, rnd *rand.Rand, d api.RollDrum, g api.Gauss, least int) []int {
	t.Helper()
	x, e := roll.WaveOf(d, g, randomFrom(rnd, least, api.MaxRollSamples))
	if e != api.OK {
		t.Fatal(d, g, e)
	}
	return x
}

func TestP6_7FoundAgain(t *testing.T) {
	rnd := rand.New(rand.NewSource(67))
	for range 3000 {
		d, g := randomDrum(rnd, api.MaxRollPeriod), randomGauss(rnd, randomSize(rnd))
		x := mustWave(t, rnd, d, g, d.Period)
		if a, e := roll.AmplitudeOf(x, d); a != wholeAmplitude(g.Re, g.Im) || e != api.OK {
			t.Fatal(d, g, a, e)
		}
		if n, e := roll.NearestOf(x, d); n != g || e != api.OK {
			t.Fatal(d, g, n, e)
		}
		g = randomGauss(rnd, 1000)
		x = mustWave(t, rnd, d, g, d.Period+d.Period/2)
		constant, slope := randomFrom(rnd, -1000, 1000), randomFrom(rnd, -1000, 1000)
		for k := range x {
			x[k] += constant + k*slope
		}
		if a, e := roll.SteadyOf(x, d); a != wholeAmplitude(g.Re, g.Im) || e != api.OK {
			t.Fatal(d, g, constant, slope, a, e)
		}
	}
}

func TestP6_8ThereAndBack(t *testing.T) {
	rnd := rand.New(rand.NewSource(68))
	for range 3000 {
		d := randomDrum(rnd, api.MaxRollPeriod)
		x := randomRecord(rnd, d.Period, randomSize(rnd))
		h, e := roll.HarmonicsOf(x, d)
		if e != api.OK {
			t.Fatal(x, d, e)
		}
		if s, e := roll.QuartersOf(h); s != quartersByHand(x, d) || e != api.OK {
			t.Fatal(x, d, h, s, e)
		}
		if s, e := roll.SumOf(x, d); s != h[1] || gauss(s.Re, -s.Im) != h[3] || e != api.OK {
			t.Fatal(x, d, h, s, e)
		}
	}
}

// TestP6_8OnlyHarmonicsOfSums has harmonics of which some number was changed.
func TestP6_8OnlyHarmonicsOfSums(t *testing.T) {
	rnd := rand.New(rand.NewSource(680))
	seen := map[api.Errno]int{}
	for range 20000 {
		h := harmonicsByHand([4]int(randomNumbers(rnd, 4, 5)))
		h[rnd.Intn(4)] = randomGauss(rnd, 8)
		s, e := roll.QuartersOf(h)
		seen[e]++
		if e == api.OK && harmonicsByHand(s) != h || e != api.OK && e != api.ErrForm {
			t.Fatal(h, s, e)
		}
		if e == api.ErrForm && isOfSums(h) {
			t.Fatal("there are sums", h)
		}
	}
	wantSeen(t, seen, 100, api.OK, api.ErrForm)
}

// isOfSums tries all sums that small harmonics may have.
func isOfSums(h [4]api.Gauss) bool {
	if h[0].Im != 0 || h[2].Im != 0 || h[1] != gauss(h[3].Re, -h[3].Im) {
		return false
	}
	for first := -30; first <= 30; first++ {
		for second := -30; second <= 30; second++ {
			if harmonicsByHand([4]int{first, second, first - h[1].Re, second + h[1].Im}) == h {
				return true
			}
		}
	}
	return false
}

func TestP6_9BoundedResidual(t *testing.T) {
	rnd := rand.New(rand.NewSource(69))
	for range 3000 {
		d := randomDrum(rnd, api.MaxRollPeriod)
		x := randomRecord(rnd, d.Period, []int{3, 100, api.MaxRollSample / 3}[rnd.Intn(3)])
		g, e := roll.NearestOf(x, d)
		l, f := roll.Cancelled(x, d, g)
		if e != api.OK || f != api.OK {
			t.Fatal(x, d, e, f)
		}
		a, e := roll.AmplitudeOf(l, d)
		if e != api.OK || ratio(a.Re).Abs(ratio(a.Re)).Cmp(rat(1, 2)) > 0 || ratio(a.Im).Abs(ratio(a.Im)).Cmp(rat(1, 2)) > 0 {
			t.Fatal(x, d, g, a, e)
		}
	}
}

func TestP6_10NeverAmplified(t *testing.T) {
	rnd := rand.New(rand.NewSource(610))
	for range 3000 {
		d := randomDrum(rnd, api.MaxRollPeriod)
		x := randomRecord(rnd, d.Period, randomSize(rnd))
		l, e := roll.Run(x, d)
		if e != api.OK || len(l) != len(x) {
			t.Fatal(x, d, l, e)
		}
		for k := range l {
			most, before := max(x[k], -x[k]), 0
			if start := k/d.Period*d.Period - d.Period; start >= 0 {
				turn := x[start : start+d.Period]
				before = max(slices.Max(turn), -slices.Min(turn))
			}
			if max(l[k], -l[k]) > most+before {
				t.Fatal(x, d, k, l)
			}
		}
	}
}

func TestP6_10WaveIsCancelled(t *testing.T) {
	rnd := rand.New(rand.NewSource(6100))
	for range 3000 {
		d, constant := randomDrum(rnd, api.MaxRollPeriod), randomFrom(rnd, -1000, 1000)
		x := mustWave(t, rnd, d, randomGauss(rnd, 1000), d.Period)
		for k := range x {
			x[k] += constant
		}
		l, e := roll.Run(x, d)
		if e != api.OK || !alike(l[:d.Period], x[:d.Period]) || !alike(l[d.Period:], slices.Repeat(numbers(constant), len(x)-d.Period)) {
			t.Fatal(x, d, l, e)
		}
	}
}
