package model_test

import (
	"math/big"
	"math/rand"
	"slices"
	"testing"

	"cobble/api"
	"cobble/model"
)

// The values of the chapter's examples; tests change their own copies of them.

func exampleTable() []api.ModelKnot {
	return knots(8000, 200, 9000, 100, 10000, 60)
}

func exampleRules() api.ModelRules {
	return api.ModelRules{Table: exampleTable(), Lowest: frac(1, 2), Step: frac(1, 4), Steps: 4}
}

// firstCoil is c1 of the examples.
func firstCoil() api.ModelCoil {
	return coil("c1", 9000, 120, 8000, 260)
}

// secondCoil is c2 of the examples.
func secondCoil() api.ModelCoil {
	return coil("c2", 10000, 45)
}

// exampleLaw is that of the examples 5 and 6.
func exampleLaw() api.ModelLaw {
	return lawOf(ends(0, 100), ends(0, 10), evidence(10, 50, 70), evidence(20, 100, 110))
}

// clashingLaw is that of the example 7.
func clashingLaw() api.ModelLaw {
	l := exampleLaw()
	l.Evidence = append(l.Evidence, evidence(30, 180, 190))
	return l
}

// knots takes a temperature and a value of each knot.
func knots(numbers ...int) []api.ModelKnot {
	var l []api.ModelKnot
	for pair := range slices.Chunk(numbers, 2) {
		l = append(l, api.ModelKnot{X: pair[0], Value: pair[1]})
	}
	return l
}

// coil takes a temperature and a force of each reading.
func coil(name string, numbers ...int) api.ModelCoil {
	c := api.ModelCoil{Name: name}
	for pair := range slices.Chunk(numbers, 2) {
		c.Readings = append(c.Readings, api.ModelReading{X: pair[0], Force: pair[1]})
	}
	return c
}

func coils(l ...api.ModelCoil) []api.ModelCoil {
	return l
}

func correction(version, at int) api.ModelCorrection {
	return api.ModelCorrection{Version: version, At: at}
}

func lawOf(constant, slope api.Range, l ...api.ModelEvidence) api.ModelLaw {
	return api.ModelLaw{Constant: constant, Slope: slope, Evidence: l}
}

func evidence(at, lo, hi int) api.ModelEvidence {
	return api.ModelEvidence{At: at, Force: ends(lo, hi)}
}

func ends(lo, hi int) api.Range {
	return api.Range{Lo: lo, Hi: hi}
}

func span(lo, hi api.Frac) api.Span {
	return api.Span{Lo: lo, Hi: hi}
}

// wholes is a span between whole numbers.
func wholes(lo, hi int) api.Span {
	return span(frac(lo, 1), frac(hi, 1))
}

func frac(num, den int) api.Frac {
	return api.Frac{Num: num, Den: den}
}

func point(constant, slope api.Frac) api.ModelPoint {
	return api.ModelPoint{Constant: constant, Slope: slope}
}

// steadyRules have one value everywhere, and whole gains from lowest on.
func steadyRules(value, lowest, step, steps int) api.ModelRules {
	return api.ModelRules{Table: knots(0, value), Lowest: frac(lowest, 1), Step: frac(step, 1), Steps: steps}
}

// wantErrors mends one fault after another, and wants the error of each.
func wantErrors(t *testing.T, call func() api.Errno, steps ...step) {
	t.Helper()
	for i, s := range steps {
		if e := call(); e != s.want {
			t.Errorf("step %d: %v in place of %v", i, e, s.want)
		}
		s.mend()
	}
	if e := call(); e != api.OK {
		t.Errorf("mended: %v", e)
	}
}

// step is an error, and how the fault is mended.
type step struct {
	want api.Errno
	mend func()
}

// nameCases are strings, and whether they are names.
func nameCases() map[string]bool {
	return map[string]bool{
		"": false, "a": true, "Z": true, "abcdefghijkl": true, "abcdefghijklm": false, "1a": false, "-a": false, "a1": true, "z-": true, "A9": true,
		"a_b": false, "\u00e9": false, "a\u00e9": false, "a\xff": false, "a\n": false, "[": false, "@": false, "`": false, "{": false, "a/": false, "a:": false, "a0": true, "a@1": false,
	}
}

// The functions 'byHand' follow the definitions of the chapter word by word, with
// fractions of any size.

func whole(n int) *big.Rat {
	return new(big.Rat).SetInt64(int64(n))
}

func ratio(f api.Frac) *big.Rat {
	return big.NewRat(int64(f.Num), int64(f.Den))
}

func sum(l ...*big.Rat) *big.Rat {
	s := new(big.Rat)
	for _, x := range l {
		s.Add(s, x)
	}
	return s
}

func product(l ...*big.Rat) *big.Rat {
	p := whole(1)
	for _, x := range l {
		p.Mul(p, x)
	}
	return p
}

func minus(x *big.Rat) *big.Rat {
	return new(big.Rat).Neg(x)
}

func isWithin(x *big.Rat, lo, hi *big.Rat) bool {
	return lo.Cmp(x) <= 0 && x.Cmp(hi) <= 0
}

// fracOf is a fraction in lowest terms, or ErrLarge.
func fracOf(x *big.Rat) (api.Frac, api.Errno) {
	most := big.NewInt(api.MaxPart)
	if x.Num().CmpAbs(most) > 0 || x.Denom().Cmp(most) > 0 {
		return api.Frac{}, api.ErrLarge
	}
	return frac(int(x.Num().Int64()), int(x.Denom().Int64())), api.OK
}

func valueByHand(l []api.ModelKnot, x int) int {
	for i, k := range l {
		if x > k.X {
			continue
		}
		if i == 0 || x == k.X {
			return k.Value
		}
		before := l[i-1]
		rise := product(whole(k.Value-before.Value), big.NewRat(int64(x-before.X), int64(k.X-before.X)))
		line := sum(whole(before.Value), rise)
		return int(new(big.Int).Div(line.Num(), line.Denom()).Int64())
	}
	return l[len(l)-1].Value
}

func gainByHand(r api.ModelRules, at int) *big.Rat {
	return sum(ratio(r.Lowest), product(whole(at), ratio(r.Step)))
}

func forceByHand(r api.ModelRules, at, x int) *big.Rat {
	return product(whole(valueByHand(r.Table, x)), gainByHand(r, at))
}

func lossByHand(r api.ModelRules, at int, c api.ModelCoil) *big.Rat {
	loss := whole(0)
	for _, x := range c.Readings {
		difference := sum(forceByHand(r, at, x.X), whole(-x.Force))
		loss.Add(loss, difference.Abs(difference))
	}
	return loss
}

// stepByHand is the first one of some steps, as far as there are such, with the
// minimum loss.
func stepByHand(r api.ModelRules, c api.ModelCoil, steps []int) int {
	best := -1
	for _, at := range steps {
		if at >= 0 && at <= r.Steps && (best < 0 || lossByHand(r, at, c).Cmp(lossByHand(r, best, c)) < 0) {
			best = at
		}
	}
	return best
}

func learnedByHand(r api.ModelRules, at int, c api.ModelCoil) int {
	return stepByHand(r, c, []int{at, at - 1, at + 1})
}

func bestByHand(r api.ModelRules, c api.ModelCoil) int {
	var all []int
	for at := range r.Steps + 1 {
		all = append(all, at)
	}
	return stepByHand(r, c, all)
}

// historyByHand are the steps after each coil.
func historyByHand(r api.ModelRules, at int, l []api.ModelCoil) []int {
	var steps []int
	for _, c := range l {
		at = learnedByHand(r, at, c)
		steps = append(steps, at)
	}
	return steps
}

func lawForceByHand(constant, slope *big.Rat, at int) *big.Rat {
	return sum(constant, product(whole(at), slope))
}

// agreesByHand tells whether both parameters lie in their ranges, and, if they do,
// the first evidence with which they do not agree (-1: none).
func agreesByHand(l api.ModelLaw, constant, slope *big.Rat) (bool, int) {
	in := func(x *big.Rat, r api.Range) bool { return isWithin(x, whole(r.Lo), whole(r.Hi)) }
	if !in(constant, l.Constant) || !in(slope, l.Slope) {
		return false, -1
	}
	for i, x := range l.Evidence {
		if !in(lawForceByHand(constant, slope, x.At), x.Force) {
			return true, i
		}
	}
	return true, -1
}

// bound is that x times the first unknown and y times the second one are together
// at most most.
type bound struct{ x, y, most *big.Rat }

// between is two bounds.
func between(x, y int, r api.Range) []bound {
	return []bound{
		{whole(x), whole(y), whole(r.Hi)},
		{whole(-x), whole(-y), whole(-r.Lo)},
	}
}

// boundsOfForce are the bounds of a law, for the force at a number and the slope as
// the unknowns.
func boundsOfForce(l api.ModelLaw, at int) []bound {
	all := slices.Concat(between(1, -at, l.Constant), between(0, 1, l.Slope))
	for _, x := range l.Evidence {
		all = append(all, between(1, x.At-at, x.Force)...)
	}
	return all
}

// boundsOfSlope are those for the slope and the constant as the unknowns.
func boundsOfSlope(l api.ModelLaw) []bound {
	all := slices.Concat(between(1, 0, l.Slope), between(0, 1, l.Constant))
	for _, x := range l.Evidence {
		all = append(all, between(x.At, 1, x.Force)...)
	}
	return all
}

// extent eliminates the second unknown by all pairs of bounds, and is from where to
// where the first one may be; it returns whether it may be anything.
func extent(all []bound) (lo, hi *big.Rat, is bool) {
	var left []bound
	for _, b := range all {
		if b.y.Sign() == 0 {
			left = append(left, b)
		}
		for _, c := range all {
			if b.y.Sign() > 0 && c.y.Sign() < 0 {
				left = append(left, bound{
					x:    sum(product(b.x, minus(c.y)), product(c.x, b.y)),
					most: sum(product(b.most, minus(c.y)), product(c.most, b.y)),
				})
			}
		}
	}
	for _, b := range left {
		switch {
		case b.x.Sign() == 0 && b.most.Sign() < 0:
			return nil, nil, false
		case b.x.Sign() > 0:
			if end := new(big.Rat).Quo(b.most, b.x); hi == nil || end.Cmp(hi) < 0 {
				hi = end
			}
		case b.x.Sign() < 0:
			if end := new(big.Rat).Quo(b.most, b.x); lo == nil || end.Cmp(lo) > 0 {
				lo = end
			}
		}
	}
	return lo, hi, lo.Cmp(hi) <= 0
}

// spanByHand is what extent is, as a span.
func spanByHand(t *testing.T, all []bound) (api.Span, api.Errno) {
	t.Helper()
	lo, hi, is := extent(all)
	if !is {
		return api.Span{}, api.ErrClash
	}
	from, e := fracOf(lo)
	to, f := fracOf(hi)
	if e != api.OK || f != api.OK {
		t.Fatal("a part of a span is too large", lo, hi)
	}
	return span(from, to), api.OK
}

// isContradiction tells whether no law agrees with some evidence alone.
func isContradiction(l api.ModelLaw, set []int) bool {
	some := lawOf(l.Constant, l.Slope)
	for _, i := range set {
		some.Evidence = append(some.Evidence, l.Evidence[i])
	}
	_, _, is := extent(boundsOfForce(some, 0))
	return !is
}

// contradictionByHand tries all sets of evidence; nil if none contradicts itself.
func contradictionByHand(l api.ModelLaw) []int {
	var sets [][]int
	for bits := range 1 << len(l.Evidence) {
		var set []int
		for i := range l.Evidence {
			if bits>>i&1 == 1 {
				set = append(set, i)
			}
		}
		sets = append(sets, set)
	}
	slices.SortFunc(sets, func(a, b []int) int {
		if len(a) != len(b) {
			return len(a) - len(b)
		}
		return slices.Compare(a, b)
	})
	for _, set := range sets {
		if isContradiction(l, set) {
			return set
		}
	}
	return nil
}

// The functions 'random' return valid values, among them those at the limits.

// randomFrom is a number from lo to hi, often one of both.
func randomFrom(rnd *rand.Rand, lo, hi int) int {
	switch rnd.Intn(8) {
	case 0:
		return lo
	case 1:
		return hi
	}
	return lo + rnd.Intn(hi-lo+1)
}

func randomEnds(rnd *rand.Rand, lo, hi int) api.Range {
	a, b := randomFrom(rnd, lo, hi), randomFrom(rnd, lo, hi)
	return ends(min(a, b), max(a, b))
}

func randomTable(rnd *rand.Rand, value int) []api.ModelKnot {
	var xs []int
	for range 1 + rnd.Intn(api.MaxModelKnots) {
		xs = append(xs, randomFrom(rnd, 0, api.MaxModelX))
	}
	slices.Sort(xs)
	var l []api.ModelKnot
	for _, x := range slices.Compact(xs) {
		l = append(l, api.ModelKnot{X: x, Value: randomFrom(rnd, 1, value)})
	}
	return l
}

// randomGain is a fraction whose parts are from 1 to most, in lowest terms.
func randomGain(rnd *rand.Rand, most int) api.Frac {
	f, _ := fracOf(big.NewRat(int64(randomFrom(rnd, 1, most)), int64(randomFrom(rnd, 1, most))))
	return f
}

// randomRules have values of the table up to value, and parts of fractions up to
// most.
func randomRules(rnd *rand.Rand, value, most, steps int) api.ModelRules {
	return api.ModelRules{Table: randomTable(rnd, value), Lowest: randomGain(rnd, most), Step: randomGain(rnd, most), Steps: randomFrom(rnd, 0, steps)}
}

// randomCoil has forces that lie near to the forces at random steps.
func randomCoil(rnd *rand.Rand, r api.ModelRules, name string) api.ModelCoil {
	c := api.ModelCoil{Name: name}
	for range 1 + rnd.Intn(api.MaxModelReadings) {
		x := randomFrom(rnd, 0, api.MaxModelX)
		force, _ := forceByHand(r, rnd.Intn(r.Steps+1), x).Float64()
		c.Readings = append(c.Readings, api.ModelReading{X: x, Force: min(int(force), api.MaxModelValue)})
	}
	return c
}

// randomCoils are at most n coils with names of their own.
func randomCoils(rnd *rand.Rand, r api.ModelRules, n int) []api.ModelCoil {
	var l []api.ModelCoil
	for i := range rnd.Intn(n + 1) {
		l = append(l, randomCoil(rnd, r, "c"+string(rune('a'+i))))
	}
	return l
}

// smallRules have few values, so that losses are often the same.
func smallRules(rnd *rand.Rand) api.ModelRules {
	return randomRules(rnd, 12, 4, 6)
}

// randomLaw has evidence near to one law, so that some of these laws agree with all
// of it, by little, and some with none.
func randomLaw(rnd *rand.Rand, pieces int) api.ModelLaw {
	l := lawOf(randomEnds(rnd, -50, 50), randomEnds(rnd, -5, 5))
	constant, slope := rnd.Intn(101)-50, rnd.Intn(11)-5
	for range rnd.Intn(pieces + 1) {
		at := rnd.Intn(21) - 10
		lo := constant + slope*at - rnd.Intn(12)
		l.Evidence = append(l.Evidence, evidence(at, lo, lo+rnd.Intn(16)))
	}
	return l
}

// wideLaw has numbers from all of their ranges.
func wideLaw(rnd *rand.Rand) api.ModelLaw {
	const most = api.MaxModelLaw
	l := lawOf(randomEnds(rnd, -most, most), randomEnds(rnd, -most, most))
	for range rnd.Intn(4) {
		l.Evidence = append(l.Evidence, api.ModelEvidence{At: randomFrom(rnd, -api.MaxModelAt, api.MaxModelAt), Force: randomEnds(rnd, -most, most)})
	}
	return l
}

// randomPoint is a point whose parameters lie in the ranges of a law, with parts up
// to parts.
func randomPoint(rnd *rand.Rand, l api.ModelLaw, parts int) api.ModelPoint {
	in := func(r api.Range) api.Frac {
		den := 1 + rnd.Intn(parts)
		f, _ := fracOf(big.NewRat(int64(r.Lo*den+rnd.Intn((r.Hi-r.Lo)*den+1)), int64(den)))
		return f
	}
	return point(in(l.Constant), in(l.Slope))
}

// mustLearn is what a correction learns.
func mustLearn(t *testing.T, r api.ModelRules, c api.ModelCorrection, x api.ModelCoil) api.ModelCorrection {
	t.Helper()
	l, e := model.Learned(r, c, x)
	if e != api.OK || l.Version != c.Version+1 {
		t.Fatal(r, c, x, l, e)
	}
	return l
}
