package gauge_test

import (
	"math/big"
	"math/rand"
	"reflect"
	"slices"
	"testing"

	"cobble/api"
	"cobble/gauge"
)

// The values of the chapter's examples; tests change their own copies of them.

func exampleStand() api.GaugeStand {
	return stand(ends(300, 400), ends(100, 100))
}

func examplePass() api.GaugePass {
	return pass(2000, 4500)
}

// exampleLoop is that of the examples 3, 4 and 8.
func exampleLoop() api.GaugeLoop {
	return exactLoop(10, 5, -2)
}

// wideLoop is that of the example 5.
func wideLoop() api.GaugeLoop {
	return loopOf(10, ends(5, 10))
}

func exampleMonitor() api.GaugeMonitor {
	return monitor(1, 1, 2, 1)
}

func exampleChain() api.GaugeChain {
	return chain(
		looper(0, 1, 2, ends(-1, 1), ends(-20, 20)),
		looper(0, 1, 2, ends(0, 0), ends(-20, 20)))
}

func stand(modulus, plastic api.Range) api.GaugeStand {
	return api.GaugeStand{Modulus: modulus, Plastic: plastic}
}

func pass(gap, entry int) api.GaugePass {
	return api.GaugePass{Gap: gap, Entry: entry}
}

func loopOf(den int, coefs ...api.Range) api.GaugeLoop {
	return api.GaugeLoop{Coefs: coefs, Den: den}
}

// exactLoop takes the numerator of each coefficient.
func exactLoop(den int, numerators ...int) api.GaugeLoop {
	l := api.GaugeLoop{Den: den}
	for _, n := range numerators {
		l.Coefs = append(l.Coefs, ends(n, n))
	}
	return l
}

func proof(steps int, weights ...int) api.GaugeProof {
	return api.GaugeProof{Steps: steps, Weights: weights}
}

func numbers(l ...int) []int {
	return l
}

// ticks are the numerators of some ticks.
func ticks(l ...[]int) [][]int {
	return l
}

func run(start []int, coefs [][]int, disturbances ...int) api.GaugeRun {
	return api.GaugeRun{Start: start, Coefs: coefs, Disturbances: disturbances}
}

func growth(start []int, coefs ...[]int) api.GaugeGrowth {
	return api.GaugeGrowth{Start: start, Coefs: coefs}
}

func monitor(delay, num, den, band int) api.GaugeMonitor {
	return api.GaugeMonitor{Delay: delay, Num: num, Den: den, Band: band}
}

func looper(target, num, den int, disturbance, limits api.Range) api.GaugeLooper {
	return api.GaugeLooper{Target: target, Num: num, Den: den, Disturbance: disturbance, Limits: limits}
}

func chain(l ...api.GaugeLooper) api.GaugeChain {
	return api.GaugeChain{Loopers: l}
}

func move(heights []int, disturbances ...int) api.GaugeMove {
	return api.GaugeMove{Heights: heights, Disturbances: disturbances}
}

func boxOf(l ...api.Range) []api.Range {
	return l
}

func ends(lo, hi int) api.Range {
	return api.Range{Lo: lo, Hi: hi}
}

func span(lo, hi api.Frac) api.Span {
	return api.Span{Lo: lo, Hi: hi}
}

func frac(num, den int) api.Frac {
	return api.Frac{Num: num, Den: den}
}

func whole(n int) api.Frac {
	return frac(n, 1)
}

// wantErrors mends one fault after another, and wants the error of each.
func wantErrors(t *testing.T, call func() api.Errno, steps ...step) {
	t.Helper()
	for i, s := range steps {
		if e := call(); e != s.want {
			t.Errorf("step %d: %v in place of %v", i, e, s.want)
		}
		s.mend()
	}
	if e := call(); e != api.OK {
		t.Errorf("mended: %v", e)
	}
}

// step is an error, and how the fault is mended.
type step struct {
	want api.Errno
	mend func()
}

// copied is a value that shares no memory with x, and in which empty slices are
// nil ones.
func copied(x reflect.Value) reflect.Value {
	y := reflect.New(x.Type()).Elem()
	switch x.Kind() {
	case reflect.Slice:
		for i := range x.Len() {
			y = reflect.Append(y, copied(x.Index(i)))
		}
	case reflect.Struct:
		for i := range x.NumField() {
			if y.Field(i).CanSet() {
				y.Field(i).Set(copied(x.Field(i)))
			}
		}
	default:
		y.Set(x)
	}
	return y
}

func copyOf[T any](x T) T {
	return copied(reflect.ValueOf(x)).Interface().(T)
}

func alike(a, b any) bool {
	return reflect.DeepEqual(copied(reflect.ValueOf(a)).Interface(), copied(reflect.ValueOf(b)).Interface())
}

// The functions 'byHand' follow the definitions of the chapter word by word, with
// fractions of any size.

func rat(num, den int) *big.Rat {
	return big.NewRat(int64(num), int64(den))
}

func ratio(f api.Frac) *big.Rat {
	return rat(f.Num, f.Den)
}

func add(l ...*big.Rat) *big.Rat {
	s := new(big.Rat)
	for _, x := range l {
		s.Add(s, x)
	}
	return s
}

func times(l ...*big.Rat) *big.Rat {
	p := rat(1, 1)
	for _, x := range l {
		p.Mul(p, x)
	}
	return p
}

func over(x, y *big.Rat) *big.Rat {
	return new(big.Rat).Quo(x, y)
}

func sizeOf(x *big.Rat) *big.Rat {
	return new(big.Rat).Abs(x)
}

func greater(x, y *big.Rat) *big.Rat {
	if x.Cmp(y) < 0 {
		return y
	}
	return x
}

// towardsZero is a quotient, rounded towards 0.
func towardsZero(n, by int) int {
	q := max(n, -n) / by
	if n < 0 {
		return -q
	}
	return q
}

// fracOf is a fraction in lowest terms, or ErrLarge.
func fracOf(x *big.Rat) (api.Frac, api.Errno) {
	most := big.NewInt(api.MaxPart)
	if x.Num().CmpAbs(most) > 0 || x.Denom().Cmp(most) > 0 {
		return api.Frac{}, api.ErrLarge
	}
	return frac(int(x.Num().Int64()), int(x.Denom().Int64())), api.OK
}

// fracsOf are fractions in lowest terms, or ErrLarge.
func fracsOf(l []*big.Rat) ([]api.Frac, api.Errno) {
	var fs []api.Frac
	for _, x := range l {
		f, e := fracOf(x)
		if e != api.OK {
			return nil, e
		}
		fs = append(fs, f)
	}
	return fs, api.OK
}

func exitByHand(modulus, plastic int, gap, entry *big.Rat) *big.Rat {
	m, q := rat(modulus, 1), rat(plastic, 1)
	return over(add(times(m, gap), times(q, entry)), add(m, q))
}

func gapByHand(modulus, plastic, entry, exit int) *big.Rat {
	return add(rat(exit, 1), rat(-plastic*(entry-exit), modulus))
}

// powerByHand adds up the products of ranges, step by step.
func powerByHand(l api.GaugeLoop, steps int) [][]api.Range {
	n := len(l.Coefs)
	power := make([][]api.Range, n)
	for i := range n {
		power[i] = make([]api.Range, n)
		power[i][i] = ends(1, 1)
	}
	entryOfTick := func(row, column int) api.Range {
		switch {
		case row == 0:
			return l.Coefs[column]
		case column == row-1:
			return ends(l.Den, l.Den)
		}
		return ends(0, 0)
	}
	for range steps {
		next := make([][]api.Range, n)
		for i := range n {
			for j := range n {
				lo, hi := 0, 0
				for k := range n {
					a, b := entryOfTick(i, k), power[k][j]
					lo += min(a.Lo*b.Lo, a.Lo*b.Hi, a.Hi*b.Lo, a.Hi*b.Hi)
					hi += max(a.Lo*b.Lo, a.Lo*b.Hi, a.Hi*b.Lo, a.Hi*b.Hi)
				}
				next[i] = append(next[i], ends(lo, hi))
			}
		}
		power = next
	}
	return power
}

func normByHand(l api.GaugeLoop, p api.GaugeProof) *big.Rat {
	norm := rat(0, 1)
	for i, row := range powerByHand(l, p.Steps) {
		total := rat(0, 1)
		for j, r := range row {
			total = add(total, rat(max(r.Lo, -r.Lo, r.Hi, -r.Hi)*p.Weights[j], p.Weights[i]))
		}
		for range p.Steps {
			total = over(total, rat(l.Den, 1))
		}
		norm = greater(norm, total)
	}
	return norm
}

// runByHand is the numbers of all ticks of a run.
func runByHand(l api.GaugeLoop, x api.GaugeRun) []*big.Rat {
	var before []*big.Rat // the oldest one first
	for _, n := range slices.Backward(x.Start) {
		before = append(before, rat(n, 1))
	}
	n := len(before)
	for t, coefs := range x.Coefs {
		next := rat(x.Disturbances[t], 1)
		for i := 1; i <= len(coefs); i++ {
			next = add(next, times(rat(coefs[i-1], l.Den), before[len(before)-i]))
		}
		before = append(before, next)
	}
	return before[n:]
}

// stateByHand is the state after all ticks of a run.
func stateByHand(l api.GaugeLoop, x api.GaugeRun) []*big.Rat {
	var all []*big.Rat
	for _, n := range slices.Backward(x.Start) {
		all = append(all, rat(n, 1))
	}
	all = append(all, runByHand(l, x)...)
	slices.Reverse(all)
	return all[:len(x.Start)]
}

// weighted is the maximum of the sizes of numbers divided by their weights.
func weighted(state []*big.Rat, weights []int) *big.Rat {
	most := rat(0, 1)
	for i, x := range state {
		most = greater(most, over(sizeOf(x), rat(weights[i], 1)))
	}
	return most
}

// pulse is the run of an exact loop from zeros with the disturbance 1 at first.
func pulse(l api.GaugeLoop, steps int) api.GaugeRun {
	x := api.GaugeRun{Start: make([]int, len(l.Coefs)), Disturbances: make([]int, steps+1)}
	x.Disturbances[0] = 1
	for range steps + 1 {
		x.Coefs = append(x.Coefs, exactNumerators(l))
	}
	return x
}

func exactNumerators(l api.GaugeLoop) []int {
	var n []int
	for _, r := range l.Coefs {
		n = append(n, r.Lo)
	}
	return n
}

func gainByHand(l api.GaugeLoop, p api.GaugeProof) *big.Rat {
	response := runByHand(l, pulse(l, p.Steps-1))
	total := rat(0, 1)
	for t := range p.Steps {
		most := rat(0, 1)
		for i, w := range p.Weights {
			if t-i >= 0 {
				most = greater(most, over(sizeOf(response[t-i]), rat(w, 1)))
			}
		}
		total = add(total, most)
	}
	left := add(rat(1, 1), new(big.Rat).Neg(normByHand(l, p)))
	return over(times(rat(p.Weights[0], 1), total), left)
}

// monitoredByHand is the outputs of all ticks, up to the first one that is too
// great in size, and whether there is one.
func monitoredByHand(m api.GaugeMonitor, disturbances []int) (outputs []int, breaks bool) {
	correction := 0
	for t, d := range disturbances {
		outputs = append(outputs, d+correction)
		if d+correction > 100000 || d+correction < -100000 {
			return outputs, true
		}
		measured := 0
		if t-m.Delay >= 0 {
			measured = outputs[t-m.Delay]
		}
		if measured > m.Band || measured < -m.Band {
			correction -= towardsZero(m.Num*measured, m.Den)
		}
	}
	return outputs, false
}

// restByHand looks at more outputs than there are delays after the last tick that
// counts: outputs that are the same so long stay as they are.
func restByHand(m api.GaugeMonitor, disturbance int) (int, api.Errno) {
	const most, more = 500, 12
	outputs, breaks := monitoredByHand(m, slices.Repeat([]int{disturbance}, most+1+more))
	if breaks && len(outputs) <= most+1 {
		return 0, api.ErrBreak
	}
	if breaks {
		return 0, api.ErrOpen
	}
	last := outputs[len(outputs)-1]
	n := len(outputs)
	for n > 0 && outputs[n-1] == last {
		n--
	}
	if n > most {
		return 0, api.ErrOpen
	}
	return n, api.OK
}

func stepByHand(c api.GaugeChain, heights, disturbances []int) []int {
	correction := func(i int) int {
		x := c.Loopers[i]
		return towardsZero(x.Num*(heights[i]-x.Target), x.Den)
	}
	var after []int
	for i := range heights {
		h := heights[i] - correction(i) + disturbances[i]
		if i+1 < len(heights) {
			h += correction(i + 1)
		}
		after = append(after, h)
	}
	return after
}

// points calls with each sequence of numbers that lie in ranges, one in each.
func points(ranges []api.Range, call func(l []int)) {
	var visit func(before []int)
	visit = func(before []int) {
		if len(before) == len(ranges) {
			call(before)
			return
		}
		r := ranges[len(before)]
		for n := r.Lo; n <= r.Hi; n++ {
			visit(append(slices.Clone(before), n))
		}
	}
	visit(nil)
}

func isIn(heights []int, box []api.Range) bool {
	for i, h := range heights {
		if h < box[i].Lo || h > box[i].Hi {
			return false
		}
	}
	return true
}

func disturbancesOf(c api.GaugeChain) []api.Range {
	var l []api.Range
	for _, x := range c.Loopers {
		l = append(l, x.Disturbance)
	}
	return l
}

func limitsOf(c api.GaugeChain) []api.Range {
	var l []api.Range
	for _, x := range c.Loopers {
		l = append(l, x.Limits)
	}
	return l
}

// leavesByHand is the first looper whose height leaves its range after some state
// of a box and some disturbances; -1 if the box is kept.
func leavesByHand(c api.GaugeChain, box []api.Range) int {
	first := -1
	points(box, func(heights []int) {
		points(disturbancesOf(c), func(disturbances []int) {
			for i, h := range stepByHand(c, heights, disturbances) {
				if (h < box[i].Lo || h > box[i].Hi) && (first < 0 || i < first) {
					first = i
				}
			}
		})
	})
	return first
}

// The functions 'random' return valid values, among them those at the limits.

// randomFrom is a number from lo to hi, often one of both.
func randomFrom(rnd *rand.Rand, lo, hi int) int {
	switch rnd.Intn(8) {
	case 0:
		return lo
	case 1:
		return hi
	}
	return lo + rnd.Intn(hi-lo+1)
}

func randomEnds(rnd *rand.Rand, lo, hi int) api.Range {
	a, b := randomFrom(rnd, lo, hi), randomFrom(rnd, lo, hi)
	return ends(min(a, b), max(a, b))
}

func randomIn(rnd *rand.Rand, r api.Range) int {
	return randomFrom(rnd, r.Lo, r.Hi)
}

func randomNumbers(rnd *rand.Rand, n, size int) []int {
	var l []int
	for range n {
		l = append(l, randomFrom(rnd, -size, size))
	}
	return l
}

// randomLoop has numerators up to most in size.
func randomLoop(rnd *rand.Rand, most int) api.GaugeLoop {
	l := api.GaugeLoop{Den: randomFrom(rnd, 1, api.MaxGaugeCoef)}
	for range 1 + rnd.Intn(api.MaxGaugeOrder) {
		l.Coefs = append(l.Coefs, randomEnds(rnd, -most, most))
	}
	return l
}

func randomExactLoop(rnd *rand.Rand, most int) api.GaugeLoop {
	l := randomLoop(rnd, most)
	for i := range l.Coefs {
		l.Coefs[i].Hi = l.Coefs[i].Lo
	}
	return l
}

func randomProof(rnd *rand.Rand, l api.GaugeLoop) api.GaugeProof {
	p := api.GaugeProof{Steps: randomFrom(rnd, 1, api.MaxGaugeSteps)}
	for range l.Coefs {
		p.Weights = append(p.Weights, randomFrom(rnd, 1, api.MaxGaugeWeight))
	}
	return p
}

// settled are random loops and proofs that settle them.
func settled(rnd *rand.Rand, n int, random func(*rand.Rand, int) api.GaugeLoop) []settledLoop {
	var all []settledLoop
	for len(all) < n {
		l := random(rnd, 1+rnd.Intn(api.MaxGaugeCoef))
		p := randomProof(rnd, l)
		if normByHand(l, p).Cmp(rat(1, 1)) < 0 {
			all = append(all, settledLoop{l, p})
		}
	}
	return all
}

type settledLoop struct {
	l api.GaugeLoop
	p api.GaugeProof
}

// randomTicks are numerators that lie in their ranges.
func randomTicks(rnd *rand.Rand, l api.GaugeLoop, n int) [][]int {
	var all [][]int
	for range n {
		var numerators []int
		for _, r := range l.Coefs {
			numerators = append(numerators, randomIn(rnd, r))
		}
		all = append(all, numerators)
	}
	return all
}

func randomRun(rnd *rand.Rand, l api.GaugeLoop, n int) api.GaugeRun {
	return api.GaugeRun{
		Start:        randomNumbers(rnd, len(l.Coefs), api.MaxGaugeStart),
		Coefs:        randomTicks(rnd, l, n),
		Disturbances: randomNumbers(rnd, n, api.MaxGaugeStart),
	}
}

func randomMonitor(rnd *rand.Rand, delay, gain, band int) api.GaugeMonitor {
	return monitor(rnd.Intn(delay+1), randomFrom(rnd, 0, gain), randomFrom(rnd, 1, gain), randomFrom(rnd, 0, band))
}

// randomChain has limits up to height in size, and disturbances up to by.
func randomChain(rnd *rand.Rand, loopers, height, by int) api.GaugeChain {
	var c api.GaugeChain
	for range 1 + rnd.Intn(loopers) {
		limits := randomEnds(rnd, -height, height)
		den := randomFrom(rnd, 1, api.MaxGaugeGain)
		num := randomFrom(rnd, 0, den)
		c.Loopers = append(c.Loopers, looper(randomIn(rnd, limits), num, den, randomEnds(rnd, -by, by), limits))
	}
	return c
}

func randomHeights(rnd *rand.Rand, ranges []api.Range) []int {
	var l []int
	for _, r := range ranges {
		l = append(l, randomIn(rnd, r))
	}
	return l
}

// wantSeen wants that each of some kinds was seen at least so many times.
func wantSeen[T comparable](t *testing.T, seen map[T]int, least int, kinds ...T) {
	t.Helper()
	for _, kind := range kinds {
		if seen[kind] < least {
			t.Error("too few of a kind", kind, seen)
		}
	}
}

// mustExit is an exit thickness.
func mustExit(t *testing.T, modulus, plastic int, x api.GaugePass) *big.Rat {
	t.Helper()
	f, e := gauge.ExitOf(modulus, plastic, x)
	if e != api.OK {
		t.Fatal(modulus, plastic, x, e)
	}
	return ratio(f)
}

// mustRun is the numbers of all ticks of a run.
func mustRun(t *testing.T, l api.GaugeLoop, x api.GaugeRun) []*big.Rat {
	t.Helper()
	fs, e := gauge.RunOf(l, x)
	if e != api.OK {
		t.Fatal(l, x, e)
	}
	var all []*big.Rat
	for _, f := range fs {
		all = append(all, ratio(f))
	}
	return all
}
