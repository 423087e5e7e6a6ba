package model_test

import (
	"math"
	"math/big"
	"math/rand"
	"slices"
	"testing"

	"cobble/api"
	"cobble/model"
)

// TestP4_5LawLimits sets one number of a valid law at a time.
func TestP4_5LawLimits(t *testing.T) {
	type set = func(l *api.ModelLaw, n int)
	least := func(l *api.ModelLaw, n int) { l.Constant.Lo = n }
	most := func(l *api.ModelLaw, n int) { l.Constant.Hi = n }
	flat := func(l *api.ModelLaw, n int) { l.Slope.Lo = n }
	steep := func(l *api.ModelLaw, n int) { l.Slope.Hi = n }
	where := func(l *api.ModelLaw, n int) { l.Evidence[1].At = n }
	weak := func(l *api.ModelLaw, n int) { l.Evidence[1].Force.Lo = n }
	strong := func(l *api.ModelLaw, n int) { l.Evidence[1].Force.Hi = n }
	for i, x := range []struct {
		set  set
		n    int
		at   int
		want api.Errno
	}{
		{least, -10000, 0, api.OK}, {least, -10001, 0, api.ErrRange}, {least, 100, 0, api.OK}, {least, 101, 0, api.ErrOrder}, {least, 10001, 0, api.ErrRange}, {least, math.MinInt, 0, api.ErrRange},
		{most, 10000, 0, api.OK}, {most, 10001, 0, api.ErrRange}, {most, 0, 0, api.OK}, {most, -1, 0, api.ErrOrder}, {most, -10001, 0, api.ErrRange}, {most, math.MaxInt, 0, api.ErrRange},
		{flat, -10000, 0, api.OK}, {flat, -10001, 0, api.ErrRange}, {flat, 10, 0, api.OK}, {flat, 11, 0, api.ErrOrder}, {flat, 10001, 0, api.ErrRange},
		{steep, 10000, 0, api.OK}, {steep, 10001, 0, api.ErrRange}, {steep, 0, 0, api.OK}, {steep, -1, 0, api.ErrOrder}, {steep, -10001, 0, api.ErrRange},
		{where, -100, 0, api.OK}, {where, 100, 0, api.OK}, {where, 0, 0, api.OK}, {where, 10, 0, api.OK}, {where, -101, 1, api.ErrRange}, {where, 101, 1, api.ErrRange}, {where, math.MinInt, 1, api.ErrRange},
		{weak, -10000, 0, api.OK}, {weak, -10001, 1, api.ErrRange}, {weak, 110, 0, api.OK}, {weak, 111, 1, api.ErrOrder}, {weak, 10001, 1, api.ErrRange},
		{strong, 10000, 0, api.OK}, {strong, 10001, 1, api.ErrRange}, {strong, 100, 0, api.OK}, {strong, 99, 1, api.ErrOrder}, {strong, -10001, 1, api.ErrRange}, {strong, math.MaxInt, 1, api.ErrRange},
	} {
		l := exampleLaw()
		x.set(&l, x.n)
		if at, e := model.CheckLaw(l); at != x.at || e != x.want {
			t.Error(i, at, e)
		}
	}
	l := exampleLaw()
	l.Evidence = make([]api.ModelEvidence, 10)
	if at, e := model.CheckLaw(l); at != 0 || e != api.OK {
		t.Error(at, e)
	}
	l.Evidence = make([]api.ModelEvidence, 11)
	if at, e := model.CheckLaw(l); at != 0 || e != api.ErrLarge {
		t.Error(at, e)
	}
	if at, e := model.CheckLaw(api.ModelLaw{}); at != 0 || e != api.OK {
		t.Error(at, e)
	}
}

func TestP4_5LawErrorsInTheirOrder(t *testing.T) {
	l := lawOf(ends(10001, 1), ends(2, -10001))
	l.Evidence = make([]api.ModelEvidence, 11)
	l.Evidence[2], l.Evidence[4] = evidence(101, 10001, -5), evidence(0, 5, 4)
	wantErrors(t, func() api.Errno { _, e := model.CheckLaw(l); return e },
		step{api.ErrRange, func() { l.Constant.Lo = 2 }},
		step{api.ErrRange, func() { l.Slope.Hi = 1 }},
		step{api.ErrOrder, func() { l.Constant.Lo = 1 }},
		step{api.ErrOrder, func() { l.Slope.Lo = 1 }},
		step{api.ErrLarge, func() { l.Evidence = l.Evidence[:10] }},
		step{api.ErrRange, func() { l.Evidence[2].At = 0 }},
		step{api.ErrRange, func() { l.Evidence[2].Force.Lo = 5 }},
		step{api.ErrOrder, func() { l.Evidence[2].Force.Lo = -5 }},
		step{api.ErrOrder, func() { l.Evidence[4].Force.Lo = -5 }})
	l.Evidence[7], l.Evidence[8] = evidence(0, 1, 0), evidence(200, 0, 0)
	if at, e := model.CheckLaw(l); at != 7 || e != api.ErrOrder {
		t.Error("the first evidence is named", at, e)
	}
}

func TestP4_5PredictionAt(t *testing.T) {
	half := func(n int) api.Frac { return frac(n, 2) }
	for i, x := range []struct {
		l    api.ModelLaw
		at   int
		want api.Span
		err  api.Errno
	}{
		{exampleLaw(), 0, wholes(0, 40), api.OK}, {exampleLaw(), 30, wholes(130, 165), api.OK}, {exampleLaw(), 20, wholes(100, 110), api.OK}, {exampleLaw(), 10, wholes(50, 70), api.OK}, {exampleLaw(), 15, span(frac(75, 1), frac(90, 1)), api.OK}, {exampleLaw(), -100, wholes(-550, -260), api.OK},
		{clashingLaw(), 30, api.Span{}, api.ErrClash}, {clashingLaw(), 0, api.Span{}, api.ErrClash},
		// no evidence
		{lawOf(ends(1, 2), ends(-3, 4)), 0, wholes(1, 2), api.OK}, {lawOf(ends(1, 2), ends(-3, 4)), 10, wholes(-29, 42), api.OK}, {lawOf(ends(1, 2), ends(-3, 4)), -10, wholes(-39, 32), api.OK},
		{lawOf(ends(10000, 10000), ends(-10000, 10000)), 100, wholes(-990000, 1010000), api.OK}, {lawOf(ends(-10000, 10000), ends(-10000, 10000)), -100, wholes(-1010000, 1010000), api.OK},
		// one law alone
		{lawOf(ends(7, 7), ends(-2, -2)), 3, wholes(1, 1), api.OK}, {lawOf(ends(-10, 10), ends(-10, 10), evidence(1, 3, 3), evidence(3, 4, 4)), 0, span(half(5), half(5)), api.OK}, {lawOf(ends(-10, 10), ends(-10, 10), evidence(1, 3, 3), evidence(3, 4, 4)), 2, span(half(7), half(7)), api.OK},
		// evidence at 0 measures the constant alone
		{lawOf(ends(0, 9), ends(1, 2), evidence(0, 4, 5)), 10, wholes(14, 25), api.OK}, {lawOf(ends(0, 3), ends(1, 2), evidence(0, 4, 5)), 10, api.Span{}, api.ErrClash}, {lawOf(ends(0, 4), ends(1, 2), evidence(0, 4, 5)), 10, wholes(14, 24), api.OK},
		// at the same number
		{lawOf(ends(0, 9), ends(0, 9), evidence(5, 4, 6), evidence(5, 6, 8)), 5, wholes(6, 6), api.OK}, {lawOf(ends(0, 9), ends(0, 9), evidence(5, 4, 6), evidence(5, 7, 8)), 5, api.Span{}, api.ErrClash},
		// a single piece may contradict the ranges
		{lawOf(ends(0, 9), ends(0, 9), evidence(1, 19, 20)), 5, api.Span{}, api.ErrClash}, {lawOf(ends(0, 9), ends(0, 9), evidence(1, 18, 20)), 5, wholes(54, 54), api.OK}, {lawOf(ends(0, 9), ends(0, 9), evidence(-1, -20, -9)), 5, wholes(45, 45), api.OK},
		{exampleLaw(), 100, span(frac(340, 1), frac(550, 1)), api.OK}, {exampleLaw(), 101, api.Span{}, api.ErrRange}, {exampleLaw(), -101, api.Span{}, api.ErrRange}, {exampleLaw(), math.MinInt, api.Span{}, api.ErrRange}, {exampleLaw(), math.MaxInt, api.Span{}, api.ErrRange},
		{clashingLaw(), 101, api.Span{}, api.ErrRange}, {lawOf(ends(1, 0), ends(0, 0)), 101, api.Span{}, api.ErrOrder},
	} {
		if s, e := model.PredictionAt(x.l, x.at); s != x.want || e != x.err {
			t.Error(i, s, e)
		}
	}
}

func TestP4_5ParametersOf(t *testing.T) {
	for i, x := range []struct {
		l    api.ModelLaw
		want [2]api.Span
		err  api.Errno
	}{
		{exampleLaw(), [2]api.Span{wholes(0, 40), span(frac(3, 1), frac(11, 2))}, api.OK},
		{clashingLaw(), [2]api.Span{}, api.ErrClash},
		{lawOf(ends(-2, -1), ends(-9, 0)), [2]api.Span{wholes(-2, -1), wholes(-9, 0)}, api.OK},
		{lawOf(ends(-100, 100), ends(-100, 100), evidence(-3, 5, 5), evidence(4, 0, 0)), [2]api.Span{span(frac(20, 7), frac(20, 7)), span(frac(-5, 7), frac(-5, 7))}, api.OK},
		{lawOf(ends(-100, 100), ends(-100, 100), evidence(0, 3, 5)), [2]api.Span{wholes(3, 5), wholes(-100, 100)}, api.OK},
		{lawOf(ends(0, 1), ends(0, 1), evidence(1, 3, 4)), [2]api.Span{}, api.ErrClash},
		{lawOf(ends(0, 1), ends(2, 1), evidence(1, 4, 3)), [2]api.Span{}, api.ErrOrder}, {lawOf(ends(0, 1), ends(0, 1), evidence(1, 4, 3)), [2]api.Span{}, api.ErrOrder}, {lawOf(ends(0, 1), ends(0, 10001)), [2]api.Span{}, api.ErrRange},
	} {
		if p, e := model.ParametersOf(x.l); p != x.want || e != x.err {
			t.Error(i, p, e)
		}
	}
}

// lawsToTry are random laws of both kinds: with evidence near to one law, and with
// numbers from all of their ranges.
func lawsToTry(rnd *rand.Rand, n int) []api.ModelLaw {
	var l []api.ModelLaw
	for range n {
		l = append(l, randomLaw(rnd, 5), randomLaw(rnd, api.MaxModelEvidence), wideLaw(rnd))
	}
	return l
}

func TestP4_5SpansByHand(t *testing.T) {
	rnd := rand.New(rand.NewSource(45))
	seen := map[api.Errno]int{}
	for _, l := range lawsToTry(rnd, 200) {
		at := randomFrom(rnd, -api.MaxModelAt, api.MaxModelAt)
		want, wrong := spanByHand(t, boundsOfForce(l, at))
		if s, e := model.PredictionAt(l, at); s != want || e != wrong {
			t.Fatal(l, at, s, e, want, wrong)
		}
		constant, _ := spanByHand(t, boundsOfForce(l, 0))
		slope, _ := spanByHand(t, boundsOfSlope(l))
		if p, e := model.ParametersOf(l); p != [2]api.Span{constant, slope} || e != wrong {
			t.Fatal(l, p, e, constant, slope)
		}
		seen[wrong]++
	}
	if seen[api.OK] < 50 || seen[api.ErrClash] < 50 {
		t.Error("too few of a kind", seen)
	}
}

func TestP4_6PointOf(t *testing.T) {
	if p, e := model.PointOf(clashingLaw()); e != api.ErrClash || p != (api.ModelPoint{}) {
		t.Error(p, e)
	}
	if p, e := model.PointOf(lawOf(ends(1, 0), ends(0, 0))); e != api.ErrOrder || p != (api.ModelPoint{}) {
		t.Error(p, e)
	}
	one := lawOf(ends(-100, 100), ends(-100, 100), evidence(-3, 5, 5), evidence(4, 0, 0))
	if p, e := model.PointOf(one); e != api.OK || p != point(frac(20, 7), frac(-5, 7)) {
		t.Error(p, e)
	}
	if p, e := model.PointOf(api.ModelLaw{}); e != api.OK || p != point(frac(0, 1), frac(0, 1)) {
		t.Error(p, e)
	}
}

func TestP4_6CheckPoint(t *testing.T) {
	n := func(constant, slope int) api.ModelPoint { return point(frac(constant, 1), frac(slope, 1)) }
	narrow := lawOf(ends(-1, 1), ends(-1, 1), evidence(1, 0, 0))
	for i, x := range []struct {
		l    api.ModelLaw
		p    api.ModelPoint
		at   int
		want api.Errno
	}{
		{exampleLaw(), n(0, 5), 0, api.OK}, {exampleLaw(), n(40, 3), 0, api.OK}, {exampleLaw(), point(frac(0, 1), frac(11, 2)), 0, api.OK}, {exampleLaw(), n(20, 4), 0, api.OK},
		{exampleLaw(), n(0, 6), 1, api.ErrProof}, {exampleLaw(), n(0, 8), 0, api.ErrProof}, {exampleLaw(), n(40, 2), 1, api.ErrProof}, {exampleLaw(), n(41, 3), 0, api.ErrProof}, {exampleLaw(), n(30, 5), 0, api.ErrProof}, {clashingLaw(), n(20, 4), 2, api.ErrProof},
		{exampleLaw(), point(frac(0, 1), frac(5500000, 1000001)), 0, api.OK}, {exampleLaw(), point(frac(0, 1), frac(5500006, 1000001)), 1, api.ErrProof},
		{exampleLaw(), n(-1, 5), 0, api.ErrRange}, {exampleLaw(), n(101, 5), 0, api.ErrRange}, {exampleLaw(), n(0, -1), 0, api.ErrRange}, {exampleLaw(), n(0, 11), 0, api.ErrRange}, {exampleLaw(), point(frac(-1, 1000000000), frac(5, 1)), 0, api.ErrRange}, {exampleLaw(), point(frac(0, 1), frac(1000000000, 99999999)), 0, api.ErrRange}, {exampleLaw(), point(frac(999999999, 10000000), frac(9, 1)), 0, api.ErrProof},
		{exampleLaw(), point(frac(0, 2), frac(5, 1)), 0, api.ErrForm}, {exampleLaw(), point(frac(0, 1), frac(10, 2)), 0, api.ErrForm}, {exampleLaw(), point(frac(0, 0), frac(5, 1)), 0, api.ErrForm}, {exampleLaw(), point(frac(0, -1), frac(5, 1)), 0, api.ErrForm}, {exampleLaw(), point(frac(0, 1), frac(-5, -1)), 0, api.ErrForm}, {exampleLaw(), api.ModelPoint{}, 0, api.ErrForm},
		{exampleLaw(), point(frac(math.MinInt, 1), frac(5, 0)), 0, api.ErrForm}, {exampleLaw(), point(frac(math.MinInt, 1), frac(5, 1)), 0, api.ErrRange}, {exampleLaw(), point(frac(math.MaxInt, 1), frac(5, 1)), 0, api.ErrRange}, {exampleLaw(), point(frac(1, math.MaxInt), frac(5, 1)), 0, api.ErrRange}, {exampleLaw(), point(frac(1, 1), frac(math.MinInt, math.MaxInt)), 0, api.ErrRange}, {exampleLaw(), point(frac(1, 1), frac(math.MinInt, 3)), 0, api.ErrRange}, {exampleLaw(), point(frac(math.MinInt, math.MaxInt), frac(1, math.MaxInt)), 0, api.ErrRange},
		// parts of 10^9 are allowed, greater ones are not
		{exampleLaw(), point(frac(1000000001, 100000000), frac(9, 1)), 0, api.ErrRange}, {exampleLaw(), point(frac(1000000000, 99999999), frac(9, 1)), 0, api.ErrProof}, {exampleLaw(), point(frac(0, 1), frac(1000000001, 200000000)), 0, api.ErrRange}, {exampleLaw(), point(frac(0, 1), frac(1000000000, 199999999)), 0, api.OK}, {exampleLaw(), point(frac(1, 1), frac(-1000000001, 200000000)), 0, api.ErrRange},
		{narrow, point(frac(999999999, 1000000000), frac(-999999999, 1000000000)), 0, api.OK}, {narrow, point(frac(999999999, 1000000000), frac(-1000000000, 1000000001)), 0, api.ErrRange}, {narrow, point(frac(999999999, 1000000000), frac(-999999998, 999999999)), 0, api.ErrProof}, {narrow, point(frac(1, 1000000000), frac(-1, 1000000000)), 0, api.OK}, {narrow, point(frac(1, 1000000001), frac(-1, 1000000001)), 0, api.ErrRange}, {narrow, point(frac(1, 1000000000), frac(-1, 999999999)), 0, api.ErrProof}, {narrow, point(frac(1, 999999999), frac(-1, 1000000000)), 0, api.ErrProof},
		// no evidence
		{lawOf(ends(-5, -5), ends(-7, -6)), point(frac(-5, 1), frac(-13, 2)), 0, api.OK}, {lawOf(ends(-5, -5), ends(-7, -6)), point(frac(-5, 1), frac(-11, 2)), 0, api.ErrRange}, {lawOf(ends(-5, -5), ends(-7, -6)), point(frac(-9, 2), frac(-13, 2)), 0, api.ErrRange},
	} {
		if at, e := model.CheckPoint(x.l, x.p); at != x.at || e != x.want {
			t.Error(i, at, e)
		}
	}
}

func TestP4_6PointErrorsInTheirOrder(t *testing.T) {
	l := exampleLaw()
	l.Evidence[1].Force.Lo = 111
	p := point(frac(1000000001, 1), frac(1, 0))
	if at, e := model.CheckPoint(l, p); at != 0 || e != api.ErrOrder {
		t.Error("the error of the law has no index", at, e)
	}
	wantErrors(t, func() api.Errno { _, e := model.CheckPoint(l, p); return e },
		step{api.ErrOrder, func() { l.Evidence[1].Force.Lo = 100 }},
		step{api.ErrForm, func() { p.Slope = frac(2, 2) }},
		step{api.ErrForm, func() { p.Slope = frac(8, 1) }},
		step{api.ErrRange, func() { p.Constant.Num = 101 }},
		step{api.ErrRange, func() { p.Constant.Num = 0 }},
		step{api.ErrProof, func() { p.Slope = frac(6, 1) }},
		step{api.ErrProof, func() { p.Slope = frac(5, 1) }})
}

// wantPoint compares CheckPoint with fractions of any size.
func wantPoint(t *testing.T, l api.ModelLaw, p api.ModelPoint) api.Errno {
	t.Helper()
	want, first := api.OK, 0
	if in, at := agreesByHand(l, ratio(p.Constant), ratio(p.Slope)); !in {
		want = api.ErrRange
	} else if at >= 0 {
		want, first = api.ErrProof, at
	}
	if at, e := model.CheckPoint(l, p); at != first || e != want {
		t.Fatal(l, p, at, e, first, want)
	}
	return want
}

func TestP4_6PointsByHand(t *testing.T) {
	rnd := rand.New(rand.NewSource(46))
	seen := map[api.Errno]int{}
	for _, l := range lawsToTry(rnd, 300) {
		for _, parts := range []int{1, 10, 1000, api.MaxPart / api.MaxModelLaw} {
			p := randomPoint(rnd, l, parts)
			seen[wantPoint(t, l, p)]++
			p.Constant = frac(p.Constant.Num+p.Constant.Den*rnd.Intn(100), p.Constant.Den)
			seen[wantPoint(t, l, p)]++
		}
	}
	for _, e := range []api.Errno{api.OK, api.ErrRange, api.ErrProof} {
		if seen[e] < 100 {
			t.Error("too few of a kind", seen)
		}
	}
}

// TestP4_6NearlyWhole has forces that differ from a whole number by the least that
// fractions of such parts allow, in both directions, and not at all.
func TestP4_6NearlyWhole(t *testing.T) {
	const d, c = 999999937, 999999929
	one, over := big.NewInt(1), big.NewInt(d)
	for _, at := range []int{1, -1, 2, 7, -64, 99, 100, -100} {
		for _, by := range []int64{1, -1, 0} {
			den := int64(c)
			slope := new(big.Int).ModInverse(big.NewInt(int64(at)*c), over)
			slope.Mod(slope.Mul(slope, big.NewInt(by)), over)
			if by == 0 {
				den = d
				slope.SetInt64(123456789)
			}
			// the constant is (by + k d den - at slope den) / d, over den
			force := big.NewRat(int64(at)*slope.Int64(), d)
			k := new(big.Int).Add(new(big.Int).Div(force.Num(), force.Denom()), one)
			num := new(big.Int).Mul(k, big.NewInt(d))
			num.Sub(num, new(big.Int).Mul(big.NewInt(int64(at)), slope))
			num.Mul(num, big.NewInt(den)).Add(num, big.NewInt(by))
			if rest := new(big.Int).Mod(num, over); rest.Sign() != 0 {
				t.Fatal("no fraction", at, by)
			}
			num.Div(num, over)
			p := point(frac(int(num.Int64()), int(den)), frac(int(slope.Int64()), d))
			n := int(k.Int64())
			for _, force := range []api.Range{ends(n, n), ends(n-1, n), ends(n, n+1), ends(n-1, n-1), ends(n+1, n+1)} {
				wantPoint(t, lawOf(ends(-1, 1), ends(-1, 1), api.ModelEvidence{At: at, Force: force}), p)
			}
			l := lawOf(ends(-1, 1), ends(-1, 1), evidence(at, n, n+1))
			if _, e := model.CheckPoint(l, p); (e == api.OK) != (by >= 0) {
				t.Error(at, by, p, e)
			}
		}
	}
}

func TestP4_6Contradicting(t *testing.T) {
	box := func(l ...api.ModelEvidence) api.ModelLaw { return lawOf(ends(-100, 100), ends(-100, 100), l...) }
	ten := slices.Repeat([]api.ModelEvidence{evidence(1, 0, 100)}, 10)
	ten[7], ten[9] = evidence(0, 5, 6), evidence(0, 7, 8)
	for i, x := range []struct {
		l    api.ModelLaw
		want []int
	}{
		{clashingLaw(), []int{1, 2}},
		{box(evidence(1, 201, 300)), []int{0}}, {box(evidence(1, 0, 0), evidence(-1, -300, -201)), []int{1}}, {box(evidence(0, 0, 1), evidence(0, 2, 3), evidence(0, 101, 102)), []int{2}}, {box(evidence(0, 101, 102), evidence(0, 103, 104)), []int{0}},
		{box(evidence(5, 4, 6), evidence(5, 7, 8)), []int{0, 1}}, {box(evidence(5, 4, 6), evidence(5, 6, 7), evidence(5, 7, 8), evidence(5, 8, 9)), []int{0, 2}},
		{box(evidence(0, 0, 1), evidence(0, 1, 2), evidence(0, 2, 3)), []int{0, 2}},
		// any two of three agree, and all of them do not
		{box(evidence(-1, 0, 0), evidence(0, 1, 1), evidence(1, 0, 0)), []int{0, 1, 2}}, {box(evidence(7, 0, 100), evidence(-1, 0, 0), evidence(0, 1, 2), evidence(1, -5, 1)), []int{1, 2, 3}}, {box(evidence(-1, 0, 0), evidence(0, 1, 1), evidence(1, 0, 0), evidence(1, 0, 0)), []int{0, 1, 2}},
		{box(ten...), []int{7, 9}},
	} {
		if l, e := model.Contradicting(x.l); e != api.OK || !slices.Equal(l, x.want) {
			t.Error(i, l, e)
		}
	}
	for i, l := range []api.ModelLaw{exampleLaw(), {}, box(), box(evidence(1, 200, 300)), box(evidence(5, 4, 6), evidence(5, 6, 8)), box(evidence(-1, 0, 0), evidence(0, 1, 1), evidence(1, 2, 2)), box(ten[:9]...)} {
		if set, e := model.Contradicting(l); e != api.ErrNone || len(set) != 0 {
			t.Error(i, set, e)
		}
	}
	if set, e := model.Contradicting(lawOf(ends(2, 1), ends(0, 0))); e != api.ErrOrder || len(set) != 0 {
		t.Error(set, e)
	}
	clash := clashingLaw()
	clash.Evidence[0].At = 101
	if set, e := model.Contradicting(clash); e != api.ErrRange || len(set) != 0 {
		t.Error(set, e)
	}
}

// TestP4_13AtMostThree compares with all sets of evidence, of any size.
func TestP4_13AtMostThree(t *testing.T) {
	rnd := rand.New(rand.NewSource(413))
	sizes := map[int]int{}
	for i := range 600 {
		pieces := 6
		if i%20 == 0 {
			pieces = api.MaxModelEvidence
		}
		l := randomLaw(rnd, pieces)
		want := contradictionByHand(l)
		wrong := api.OK
		if want == nil {
			wrong = api.ErrNone
		}
		set, e := model.Contradicting(l)
		if e != wrong || !slices.Equal(set, want) || len(set) > 3 {
			t.Fatal(l, set, e, want)
		}
		sizes[len(set)]++
	}
	for n := range 4 {
		if sizes[n] < 5 {
			t.Error("too few sets of a size", n, sizes)
		}
	}
}

func TestP4_13AcceptsPointOf(t *testing.T) {
	rnd := rand.New(rand.NewSource(4130))
	for _, l := range lawsToTry(rnd, 300) {
		_, _, is := extent(boundsOfForce(l, 0))
		p, e := model.PointOf(l)
		if is != (e == api.OK) || !is && e != api.ErrClash {
			t.Fatal(l, is, p, e)
		}
		if _, f := model.Contradicting(l); is != (f == api.ErrNone) {
			t.Fatal(l, is, f)
		}
		if is && wantPoint(t, l, p) != api.OK {
			t.Fatal(l, p)
		}
	}
}

// agreeingPoints are points of a law that CheckPoint accepts.
func agreeingPoints(rnd *rand.Rand, l api.ModelLaw) []api.ModelPoint {
	var points []api.ModelPoint
	if p, e := model.PointOf(l); e == api.OK {
		points = append(points, p)
	}
	for _, parts := range []int{1, 1, 1, 2, 3, 100, 10000} {
		points = append(points, randomPoint(rnd, l, parts))
	}
	return slices.DeleteFunc(points, func(p api.ModelPoint) bool { _, e := model.CheckPoint(l, p); return e != api.OK })
}

func isIn(x *big.Rat, s api.Span) bool {
	return isWithin(x, ratio(s.Lo), ratio(s.Hi))
}

func TestP4_12AllThatAgree(t *testing.T) {
	rnd := rand.New(rand.NewSource(412))
	tried := 0
	for range 1500 {
		l := randomLaw(rnd, 3)
		at := rnd.Intn(41) - 20
		for _, p := range agreeingPoints(rnd, l) {
			tried++
			s, e := model.PredictionAt(l, at)
			parameters, f := model.ParametersOf(l)
			constant, slope := ratio(p.Constant), ratio(p.Slope)
			if e != api.OK || f != api.OK || !isIn(lawForceByHand(constant, slope, at), s) || !isIn(constant, parameters[0]) || !isIn(slope, parameters[1]) {
				t.Fatal(l, at, p, s, e, parameters, f)
			}
		}
	}
	if tried < 1000 {
		t.Error("too few points", tried)
	}
}

// TestP4_12NeverWider predicts after each piece of evidence.
func TestP4_12NeverWider(t *testing.T) {
	rnd := rand.New(rand.NewSource(4120))
	narrower := 0
	for range 500 {
		l := randomLaw(rnd, api.MaxModelEvidence)
		at := rnd.Intn(201) - 100
		some := lawOf(l.Constant, l.Slope)
		before, wrong := model.PredictionAt(some, at)
		for _, x := range l.Evidence {
			some.Evidence = append(some.Evidence, x)
			after, e := model.PredictionAt(some, at)
			if wrong != api.OK && e == api.OK || e == api.OK && !(isIn(ratio(after.Lo), before) && isIn(ratio(after.Hi), before)) {
				t.Fatal("wider", some, at, before, after)
			}
			if e == api.OK && after != before {
				narrower++
			}
			there, e := model.PredictionAt(some, x.At)
			if e == api.OK && !(isIn(ratio(there.Lo), wholes(x.Force.Lo, x.Force.Hi)) && isIn(ratio(there.Hi), wholes(x.Force.Lo, x.Force.Hi))) {
				t.Fatal("outside the range", some, x, there)
			}
			before, wrong = after, e
		}
	}
	if narrower < 100 {
		t.Error("no evidence told anything", narrower)
	}
}
