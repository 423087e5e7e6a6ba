package trace_test

import (
	"math"
	"math/big"
	"math/rand"
	"slices"
	"testing"

	"cobble/api"
	"cobble/trace"
)

const most = api.MaxPart

// ascending are n different fractions, whose parts are at most so great.
func ascending(rnd *rand.Rand, n, maxNum, maxDen int) []api.Frac {
	var l []*big.Rat
	for len(l) < n {
		x := rat(rnd.Intn(2*maxNum+1)-maxNum, 1+rnd.Intn(maxDen))
		if !slices.ContainsFunc(l, func(y *big.Rat) bool { return x.Cmp(y) == 0 }) {
			l = append(l, x)
		}
	}
	slices.SortFunc(l, (*big.Rat).Cmp)
	var fractions []api.Frac
	for _, x := range l {
		f, _ := fracByHand(x)
		fractions = append(fractions, f)
	}
	return fractions
}

// randomMap is a map of n knots; many of those with small parts are not simple.
func randomMap(rnd *rand.Rand, n int) api.TraceMap {
	maxNum := oneOf(rnd, 10, 100, 1000, most)
	maxDen := oneOf(rnd, 1, 2, 20, maxNum)
	ins, outs := ascending(rnd, n, maxNum, maxDen), ascending(rnd, n, maxNum, maxDen)
	var m api.TraceMap
	for i := range n {
		m.Knots = append(m.Knots, knot(ins[i], outs[i]))
	}
	return m
}

func TestP9_2Example(t *testing.T) {
	c := exampleCourse()
	for _, x := range []struct {
		from, to int
		want     api.TraceMap
	}{
		{0, 1, exampleMap()}, {1, 2, cutMap()}, {0, 2, wholeMap()},
		{0, 0, mapOf(wholeKnot(0, 0), wholeKnot(1500, 1500))},
		{1, 1, mapOf(wholeKnot(0, 0), wholeKnot(6000, 6000))},
		{2, 2, mapOf(wholeKnot(0, 0), wholeKnot(4000, 4000))},
	} {
		m, e := trace.MapOf(c, x.from, x.to)
		wantSame(t, "MapOf", m, e, x.want, api.OK)
		i, e := trace.CheckMap(x.want)
		wantSame(t, "CheckMap", i, e, 0, api.OK)
	}
	v, e := trace.ValueAt(exampleMap(), whole(1250))
	wantSame(t, "ValueAt", v, e, whole(4500), api.OK)
	inverse, e := trace.Inverse(exampleMap())
	wantSame(t, "Inverse", inverse, e, mapOf(wholeKnot(0, 0), wholeKnot(3000, 1000), wholeKnot(6000, 1500)), api.OK)
	v, e = trace.ValueAt(inverse, whole(1000))
	wantSame(t, "ValueAt", v, e, frac(1000, 3), api.OK)
	both, e := trace.Composed(exampleMap(), cutMap())
	wantSame(t, "Composed", both, e, wholeMap(), api.OK)
}

func TestP9_2MapOfErrors(t *testing.T) {
	c := exampleCourse()
	c.Steps[1].Kind = 2
	from, to := -1, 3
	call := func() api.Errno {
		m, e := trace.MapOf(c, from, to)
		if e != api.OK && !alike(m, api.TraceMap{}) {
			t.Error(m, e)
		}
		return e
	}
	wantErrors(t, call,
		step{api.ErrKind, func() { c.Steps[1].Kind = api.TraceCut }},
		step{api.ErrRange, func() { from = math.MinInt }},
		step{api.ErrRange, func() { from = 3 }},
		step{api.ErrRange, func() { from = 2 }},
		step{api.ErrRange, func() { to = math.MaxInt }},
		step{api.ErrRange, func() { to = -1 }},
		step{api.ErrRange, func() { to = 0 }},
		step{api.ErrOrder, func() { to = 1 }},
		step{api.ErrOrder, func() { to = 2 }})
}

// TestP9_2MapOfCases has maps with fewer knots than sections, and with large parts.
func TestP9_2MapOfCases(t *testing.T) {
	for text, want := range map[string]api.TraceMap{
		"a;7*1":                       mapOf(wholeKnot(0, 0), wholeKnot(7, 7)),
		"a;7*1,5*2,3*4":               mapOf(wholeKnot(0, 0), wholeKnot(15, 15)),
		"a;7*1,5*2;p 2,4":             mapOf(wholeKnot(0, 0), knot(whole(12), whole(6))),
		"a;7*1,5*2;p 2,3":             mapOf(wholeKnot(0, 0), knot(whole(7), frac(7, 2)), knot(whole(12), frac(41, 6))),
		"a;7*1,5*2;p 9,9":             mapOf(wholeKnot(0, 0), knot(whole(7), frac(7, 9)), knot(whole(12), frac(17, 9))),
		"a;7*1,5*2;c 0 12":            mapOf(wholeKnot(0, 0), wholeKnot(12, 12)),
		"a;7*1,5*2;c 3 12":            mapOf(wholeKnot(3, 0), wholeKnot(12, 9)),
		"a;7*1,5*2;c 7 9":             mapOf(wholeKnot(7, 0), wholeKnot(9, 2)),
		"a;7*1,5*2;p 2,1":             mapOf(wholeKnot(0, 0), knot(whole(7), frac(7, 2)), knot(whole(12), frac(27, 2))),
		"a;7*1,5*2;p 2,4;c 1 3;p 8":   mapOf(knot(whole(2), whole(0)), knot(whole(6), frac(1, 2))),
		"a;7*1,5*2;p 1,1;c 0 7;p 5":   mapOf(knot(whole(0), whole(0)), knot(whole(7), frac(7, 5))),
		"a;7*1,5*1,4*1,3*1;p 1,2,2,3": mapOf(wholeKnot(0, 0), wholeKnot(7, 7), knot(whole(16), frac(23, 2)), knot(whole(19), frac(25, 2))),
	} {
		c := mustParse(t, text)
		m, e := trace.MapOf(c, 0, len(c.Steps))
		wantSame(t, text, m, e, want, api.OK)
	}
	c := mustParse(t, "a;20000*1000,20000*997;p 97,20;c 500000 1000000;p 7;c 100000 1000000")
	m, e := trace.MapOf(c, 0, 4)
	wantSame(t, "large parts", m, e, api.TraceMap{}, api.ErrLarge)
	m, e = trace.MapOf(c, 2, 4)
	wantSame(t, "small parts", m, e, mapOf(wholeKnot(35000, 0), wholeKnot(350000, 900000)), api.OK)
}

func TestP9_2MapOfByHand(t *testing.T) {
	rnd := rand.New(rand.NewSource(92))
	seen := map[string]int{}
	for range 2000 {
		c := randomCourse(rnd)
		from, to := rnd.Intn(len(c.Steps)+1), len(c.Steps)
		if rnd.Intn(2) == 0 {
			to = from + rnd.Intn(to-from+1)
		}
		want, wrong := mapByHand(c, from, to).resultByHand()
		m, e := trace.MapOf(c, from, to)
		wantSame(t, "MapOf", m, e, want, wrong)
		switch i, e := trace.CheckMap(m); {
		case wrong != api.OK:
			seen["large"]++
			continue
		case i != 0 || e != api.OK:
			t.Fatal("no map", m, i, e)
		case len(m.Knots) == 2:
			seen["straight"]++
		case len(m.Knots) <= len(stripByHand(c, to).areas):
			seen["simpler"]++
		default:
			seen["all ends"]++
		}
	}
	wantSeen(t, seen, 5, "large")
	wantSeen(t, seen, 25, "straight", "simpler", "all ends")
}

func TestP9_2CheckMap(t *testing.T) {
	least, next := math.MinInt, math.MaxInt
	twelve := mapOf(slices.Repeat([]api.TraceKnot{wholeKnot(0, 0)}, 12)...)
	for i := range twelve.Knots {
		twelve.Knots[i] = wholeKnot(i, 2*i)
	}
	for i, x := range []struct {
		m     api.TraceMap
		index int
		want  api.Errno
	}{
		{mapOf(), 0, api.ErrShape},
		{mapOf(wholeKnot(0, 0)), 0, api.ErrShape},
		{mapOf(knot(frac(0, 0), frac(2, 2))), 0, api.ErrShape},
		{twelve, 0, api.OK},
		{mapOf(append(twelve.Knots, wholeKnot(100, 100))...), 0, api.ErrLarge},
		{mapOf(make([]api.TraceKnot, 13)...), 0, api.ErrLarge},
		{mapOf(make([]api.TraceKnot, 12)...), 0, api.ErrForm},
		{mapOf(wholeKnot(0, 0), wholeKnot(1, 1)), 0, api.OK},
		{mapOf(wholeKnot(-most, -most), equal(most)), 0, api.OK},
		{mapOf(knot(frac(-1, most), frac(1, most)), knot(frac(1, most), frac(1, most-1))), 0, api.OK},
		{mapOf(wholeKnot(-most-1, 0), wholeKnot(1, 1)), 0, api.ErrRange},
		{mapOf(wholeKnot(0, -most-1), wholeKnot(1, 1)), 0, api.ErrRange},
		{mapOf(wholeKnot(0, 0), wholeKnot(most+1, 1)), 1, api.ErrRange},
		{mapOf(wholeKnot(0, 0), wholeKnot(1, most+1)), 1, api.ErrRange},
		{mapOf(knot(frac(1, most+1), frac(0, 1)), wholeKnot(1, 1)), 0, api.ErrRange},
		{mapOf(wholeKnot(0, 0), knot(frac(1, 1), frac(1, most+1))), 1, api.ErrRange},
		{mapOf(wholeKnot(least, least), wholeKnot(next, next)), 0, api.ErrRange},
		{mapOf(wholeKnot(0, 0), knot(frac(least, next), frac(next, next-1))), 1, api.ErrRange},
		{mapOf(wholeKnot(0, 0), knot(frac(2, 4), frac(1, 1))), 1, api.ErrForm},
		{mapOf(wholeKnot(0, 0), knot(frac(1, 1), frac(2, 4))), 1, api.ErrForm},
		{mapOf(wholeKnot(0, 0), knot(frac(1, 0), frac(1, 1))), 1, api.ErrForm},
		{mapOf(wholeKnot(0, 0), knot(frac(1, 1), frac(-1, -1))), 1, api.ErrForm},
		{mapOf(wholeKnot(0, 0), knot(frac(1, least), frac(1, 1))), 1, api.ErrForm},
		{mapOf(knot(frac(0, 2), frac(0, 1)), wholeKnot(1, 1)), 0, api.ErrForm},
		{mapOf(knot(frac(0, 1), frac(0, next)), wholeKnot(1, 1)), 0, api.ErrForm},
		{mapOf(knot(frac(least, 2), frac(0, 1)), wholeKnot(1, 1)), 0, api.ErrForm},
		{mapOf(knot(frac(most+1, 1), frac(0, 2)), wholeKnot(1, 1)), 0, api.ErrForm},
		{mapOf(wholeKnot(0, 0), wholeKnot(0, 1)), 1, api.ErrOrder},
		{mapOf(wholeKnot(0, 0), wholeKnot(1, 0)), 1, api.ErrOrder},
		{mapOf(wholeKnot(0, 0), wholeKnot(1, -1)), 1, api.ErrOrder},
		{mapOf(wholeKnot(0, 0), wholeKnot(-1, 1)), 1, api.ErrOrder},
		{mapOf(wholeKnot(0, 0), wholeKnot(2, 2), knot(frac(3, 2), frac(3, 1))), 2, api.ErrOrder},
		{mapOf(wholeKnot(0, 0), wholeKnot(2, 2), knot(frac(3, 1), frac(3, 2))), 2, api.ErrOrder},
		{mapOf(wholeKnot(0, 0), wholeKnot(0, 2), knot(frac(2, 2), frac(3, 2))), 1, api.ErrOrder},
		{mapOf(wholeKnot(0, 0), wholeKnot(most+1, 0), knot(frac(2, 2), frac(3, 2))), 1, api.ErrRange},
		{mapOf(knot(frac(most-2, most-1), frac(0, 1)), knot(frac(most-1, most), frac(1, 1))), 0, api.OK},
		{mapOf(knot(frac(most-1, most), frac(0, 1)), knot(frac(most-2, most-1), frac(1, 1))), 1, api.ErrOrder},
	} {
		j, e := trace.CheckMap(x.m)
		if j != x.index || e != x.want {
			t.Errorf("%d: %d, %v", i, j, e)
		}
		v, e := trace.ValueAt(x.m, frac(2, 4))
		wantSame(t, "ValueAt", v, e, api.Frac{}, firstOf(x.want, api.ErrForm))
		m, e := trace.Inverse(x.m)
		if e != x.want || e != api.OK && !alike(m, api.TraceMap{}) {
			t.Errorf("%d: Inverse: %v, %v", i, m, e)
		}
		m, e = trace.Composed(x.m, mapOf())
		wantSame(t, "Composed", m, e, api.TraceMap{}, firstOf(x.want, api.ErrShape))
		m, e = trace.Composed(mapOf(wholeKnot(-most, -most), equal(most)), x.m)
		if e != x.want || e != api.OK && !alike(m, api.TraceMap{}) {
			t.Errorf("%d: Composed: %v, %v", i, m, e)
		}
	}
}

// firstOf is the first one that is an error.
func firstOf(a, b api.Errno) api.Errno {
	if a != api.OK {
		return a
	}
	return b
}

func TestP9_2ValueAt(t *testing.T) {
	identity := mapOf(wholeKnot(-most, -most), equal(most))
	steep := mapOf(wholeKnot(0, 0), knot(frac(1, most), whole(most)))
	for _, x := range []struct {
		m        api.TraceMap
		position api.Frac
		want     api.Frac
		e        api.Errno
	}{
		{exampleMap(), whole(0), whole(0), api.OK}, {exampleMap(), whole(1000), whole(3000), api.OK}, {exampleMap(), whole(1500), whole(6000), api.OK},
		{exampleMap(), frac(1, 2), frac(3, 2), api.OK}, {exampleMap(), frac(2001, 2), whole(3003), api.OK},
		{exampleMap(), whole(-1), api.Frac{}, api.ErrRange}, {exampleMap(), whole(1501), api.Frac{}, api.ErrRange}, {exampleMap(), frac(3001, 2), api.Frac{}, api.ErrRange}, {exampleMap(), frac(-1, math.MaxInt), api.Frac{}, api.ErrRange},
		{exampleMap(), whole(math.MinInt), api.Frac{}, api.ErrRange}, {exampleMap(), whole(math.MaxInt), api.Frac{}, api.ErrRange}, {exampleMap(), frac(math.MinInt, 3), api.Frac{}, api.ErrRange},
		{exampleMap(), frac(2, 4), api.Frac{}, api.ErrForm}, {exampleMap(), frac(0, 2), api.Frac{}, api.ErrForm}, {exampleMap(), frac(0, 0), api.Frac{}, api.ErrForm}, {exampleMap(), frac(1, 0), api.Frac{}, api.ErrForm}, {exampleMap(), frac(1, -1), api.Frac{}, api.ErrForm}, {exampleMap(), frac(-1, -1), api.Frac{}, api.ErrForm}, {exampleMap(), frac(math.MinInt, 2), api.Frac{}, api.ErrForm}, {exampleMap(), frac(math.MinInt, math.MinInt), api.Frac{}, api.ErrForm}, {exampleMap(), frac(math.MaxInt, math.MaxInt), api.Frac{}, api.ErrForm},
		{cutMap(), whole(999), api.Frac{}, api.ErrRange}, {cutMap(), whole(1001), whole(1), api.OK},
		{identity, frac(1, most), frac(1, most), api.OK}, {identity, frac(1, most+1), api.Frac{}, api.ErrLarge}, {identity, frac(-1, most), frac(-1, most), api.OK}, {identity, frac(-1, most+1), api.Frac{}, api.ErrLarge},
		{identity, whole(-most), whole(-most), api.OK}, {identity, frac(most-1, 2), frac(most-1, 2), api.OK}, {identity, frac(most+1, 2), api.Frac{}, api.ErrLarge}, {identity, frac(-most-1, 2), api.Frac{}, api.ErrLarge}, {identity, whole(most + 1), api.Frac{}, api.ErrRange}, {identity, whole(0), whole(0), api.OK},
		{identity, frac(1<<62+1, 1<<62), api.Frac{}, api.ErrLarge}, {identity, frac(math.MinInt, math.MaxInt), api.Frac{}, api.ErrLarge},
		{steep, frac(1, most*most), whole(1), api.OK}, {steep, frac(123456789, most*most), whole(123456789), api.OK}, {steep, frac(1, most*most*9), frac(1, 9), api.OK}, {steep, frac(1, math.MaxInt), api.Frac{}, api.ErrLarge}, {steep, frac(1, most), whole(most), api.OK}, {steep, frac(1, most-1), api.Frac{}, api.ErrRange},
		{mapOf(knot(frac(-1, 2), frac(1, 3)), knot(frac(1, 3), frac(7, 2))), whole(0), frac(67, 30), api.OK},
		{mapOf(wholeKnot(0, -7), wholeKnot(7, 0)), whole(0), whole(-7), api.OK}, {mapOf(wholeKnot(0, -7), wholeKnot(7, 0)), frac(1, 7), frac(-48, 7), api.OK},
	} {
		v, e := trace.ValueAt(x.m, x.position)
		wantSame(t, "ValueAt", v, e, x.want, x.e)
	}
}

func TestP9_2ValueAtByHand(t *testing.T) {
	rnd := rand.New(rand.NewSource(922))
	seen := map[api.Errno]int{}
	for range 20000 {
		m := randomMap(rnd, 2+rnd.Intn(11))
		x := rat(rnd.Intn(2*most)-most, 1+rnd.Intn(oneOf(rnd, 10, most, 1<<30)))
		switch rnd.Intn(4) {
		case 0:
			x = ratOf(oneOf(rnd, m.Knots...).In)
		case 1:
			x = rat(1+rnd.Intn(1<<62), 1+rnd.Intn(1<<62))
		case 2:
			x = rat(rnd.Intn(21)-10, 1+rnd.Intn(12))
		}
		position := frac(int(x.Num().Int64()), int(x.Denom().Int64()))
		want, wrong := api.Frac{}, api.ErrRange
		if value := handMapOf(m).valueByHand(x); value != nil {
			want, wrong = fracByHand(value)
		}
		v, e := trace.ValueAt(m, position)
		wantSame(t, "ValueAt", v, e, want, wrong)
		seen[wrong]++
	}
	wantSeen(t, seen, 1000, api.OK, api.ErrRange, api.ErrLarge)
}

func TestP9_2Composed(t *testing.T) {
	m := func(ins, outs []int) api.TraceMap {
		var x api.TraceMap
		for i := range ins {
			x.Knots = append(x.Knots, wholeKnot(ins[i], outs[i]))
		}
		return x
	}
	for i, x := range []struct {
		a, b, want api.TraceMap
		e          api.Errno
	}{
		{m(numbers(0, 9), numbers(0, 9)), m(numbers(0, 9), numbers(0, 18)), m(numbers(0, 9), numbers(0, 18)), api.OK},
		// The composition is simple, though both maps are not, or have bends that make up for one another.
		{m(numbers(0, 3, 9), numbers(0, 3, 9)), m(numbers(0, 5, 9), numbers(0, 5, 9)), m(numbers(0, 9), numbers(0, 9)), api.OK},
		{m(numbers(0, 1, 3), numbers(0, 2, 3)), m(numbers(0, 2, 3), numbers(0, 1, 3)), m(numbers(0, 3), numbers(0, 3)), api.OK},
		{m(numbers(0, 1, 3), numbers(0, 2, 4)), m(numbers(0, 3, 4), numbers(0, 3, 6)), mapOf(wholeKnot(0, 0), wholeKnot(1, 2), wholeKnot(2, 3), wholeKnot(3, 6)), api.OK},
		// What is defined: at no position, at one, or at more.
		{m(numbers(0, 9), numbers(0, 9)), m(numbers(10, 19), numbers(0, 9)), api.TraceMap{}, api.ErrNone},
		{m(numbers(0, 9), numbers(10, 19)), m(numbers(0, 9), numbers(0, 9)), api.TraceMap{}, api.ErrNone},
		{m(numbers(0, 9), numbers(0, 9)), m(numbers(9, 19), numbers(0, 10)), api.TraceMap{}, api.ErrNone},
		{m(numbers(0, 9), numbers(9, 18)), m(numbers(0, 9), numbers(0, 9)), api.TraceMap{}, api.ErrNone},
		{m(numbers(0, 9), numbers(0, 9)), m(numbers(8, 19), numbers(0, 11)), m(numbers(8, 9), numbers(0, 1)), api.OK},
		{m(numbers(0, 9), numbers(-5, 4)), m(numbers(0, 9), numbers(7, 16)), m(numbers(5, 9), numbers(7, 11)), api.OK},
		{m(numbers(0, 9), numbers(0, 9)), m(numbers(2, 5, 6), numbers(0, 3, 5)), m(numbers(2, 5, 6), numbers(0, 3, 5)), api.OK},
		// Parts of knots, and of one that is not needed.
		{m(numbers(0, most), numbers(0, most-1)), m(numbers(0, most-2), numbers(0, 1)), api.TraceMap{}, api.ErrLarge},
		{mapOf(wholeKnot(0, 0), knot(frac(1, most), frac(1, most))), mapOf(wholeKnot(0, 0), knot(frac(1, most-1), whole(1))), mapOf(wholeKnot(0, 0), knot(frac(1, most), frac(most-1, most))), api.OK},
		{mapOf(wholeKnot(0, 0), wholeKnot(1, most)), mapOf(wholeKnot(0, 0), knot(frac(1, 3), whole(1)), knot(frac(1, 2), frac(3, 2)), equal(most)), mapOf(wholeKnot(0, 0), knot(frac(1, most), whole(3))), api.ErrLarge},
		{mapOf(wholeKnot(0, 0), wholeKnot(1, most)), mapOf(wholeKnot(0, 0), knot(frac(1, 3), frac(1, 3)), equal(most)), mapOf(wholeKnot(0, 0), wholeKnot(1, most)), api.OK},
	} {
		if x.e != api.OK {
			x.want = api.TraceMap{}
		}
		both, e := trace.Composed(x.a, x.b)
		if !alike(both, x.want) || e != x.e {
			t.Errorf("%d: %v, %v", i, both, e)
		}
	}
}

func equal(n int) api.TraceKnot {
	return wholeKnot(n, n)
}

// bent is a map with n knots that is simple, from 0 to 120.
func bent(n, shift int) api.TraceMap {
	m := mapOf(wholeKnot(0, 0))
	for i := 1; i < n-1; i++ {
		m.Knots = append(m.Knots, wholeKnot(10*i+shift, 10*i+shift+i%2+1))
	}
	return mapOf(append(m.Knots, wholeKnot(120, 120))...)
}

// TestP9_2ComposedKnots has compositions with as many knots as there may be, and with one
// more.
func TestP9_2ComposedKnots(t *testing.T) {
	for n := 2; n <= api.MaxTraceKnots; n++ {
		for k := 2; k <= api.MaxTraceKnots; k++ {
			a, b := bent(n, 0), bent(k, 5)
			want, wrong := composedByHand(handMapOf(a), handMapOf(b)).resultByHand()
			if len(want.Knots) != n+k-2 {
				t.Fatal("no good example", n, k, len(want.Knots))
			}
			if len(want.Knots) > api.MaxTraceKnots {
				want, wrong = api.TraceMap{}, api.ErrLarge
			}
			m, e := trace.Composed(a, b)
			wantSame(t, "Composed", m, e, want, wrong)
		}
	}
}

func TestP9_2ComposedByHand(t *testing.T) {
	rnd := rand.New(rand.NewSource(923))
	seen := map[api.Errno]int{}
	for range 6000 {
		a, b := randomMap(rnd, 2+rnd.Intn(6)), randomMap(rnd, 2+rnd.Intn(oneOf(rnd, 1, 6, 11)))
		h := composedByHand(handMapOf(a), handMapOf(b))
		want, wrong := h.resultByHand()
		switch {
		case len(h) < 2:
			want, wrong = api.TraceMap{}, api.ErrNone
		case len(h) > api.MaxTraceKnots:
			want, wrong = api.TraceMap{}, api.ErrLarge
		}
		m, e := trace.Composed(a, b)
		wantSame(t, "Composed", m, e, want, wrong)
		seen[e]++
	}
	wantSeen(t, seen, 500, api.OK, api.ErrNone, api.ErrLarge)
}

func TestP9_9ThereAndBack(t *testing.T) {
	rnd := rand.New(rand.NewSource(99))
	seen := map[string]int{}
	for range 8000 {
		m := randomMap(rnd, 2+rnd.Intn(11))
		inverse, e := trace.Inverse(m)
		again, f := trace.Inverse(inverse)
		if !alike(again, m) || e != api.OK || f != api.OK {
			t.Fatal(m, inverse, again, e, f)
		}
		position := frac(rnd.Intn(2001)-1000, 1)
		value, e := trace.ValueAt(m, position)
		if e != api.OK {
			continue
		}
		back, e := trace.ValueAt(inverse, value)
		wantSame(t, "there and back", back, e, position, api.OK)
		seen["back"]++
	}
	for range 1500 {
		c := randomCourse(rnd)
		at := several(3, func() int { return rnd.Intn(len(c.Steps) + 1) })
		slices.Sort(at)
		first, wrong := trace.MapOf(c, at[0], at[1])
		next, e := trace.MapOf(c, at[1], at[2])
		if wrong != api.OK || e != api.OK {
			continue
		}
		whole, wrong := trace.MapOf(c, at[0], at[2])
		both, e := trace.Composed(first, next)
		wantSame(t, "the composition of two maps", both, e, whole, wrong)
		seen["composed"]++
	}
	wantSeen(t, seen, 500, "back", "composed")
}
