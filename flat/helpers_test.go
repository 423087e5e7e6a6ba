package flat_test

import (
	"math/big"
	"math/rand"
	"reflect"
	"slices"
	"testing"

	"cobble/api"
)

// The values of the chapter's examples; tests change their own copies of them.

func exampleProfile() []int {
	return numbers(100, 104, 102)
}

// exampleLaw is that of the example 2.
func exampleLaw() api.FlatLaw {
	return law(ends(500, 1000), ends(2000, 3000))
}

// exampleChanges are those of the example 2.
func exampleChanges() []api.Frac {
	return []api.Frac{frac(-1, 302), frac(100, 15251), frac(-1, 302)}
}

// exampleRules are those of the example 3.
func exampleRules() api.FlatRules {
	return rules(numbers(7, 0, 7), actor(-5, 5, 2, 1, 2))
}

// twoActors are rules with two actuators, which act on four positions.
func twoActors() api.FlatRules {
	return rules(numbers(9, -4, 3, 20), actor(-3, 4, 2, -1, 0, 5), actor(0, 2, 1, 1, -1, 3))
}

// exampleContour is that of the example 6.
func exampleContour() []api.FlatPoint {
	return contour(0, 10, 100, 30)
}

// exampleHeat is that of the example 7.
func exampleHeat() api.FlatHeat {
	return heat(0, 100, 200)
}

func numbers(l ...int) []int {
	return l
}

func ends(lo, hi int) api.Range {
	return api.Range{Lo: lo, Hi: hi}
}

func frac(num, den int) api.Frac {
	return api.Frac{Num: num, Den: den}
}

func law(edge, center api.Range) api.FlatLaw {
	return api.FlatLaw{Edge: edge, Center: center}
}

func actor(lo, hi int, effects ...int) api.FlatActor {
	return api.FlatActor{Settings: ends(lo, hi), Effects: effects}
}

func rules(target []int, actors ...api.FlatActor) api.FlatRules {
	return api.FlatRules{Target: target, Actors: actors}
}

// contour has the position and the height of each point, one after another.
func contour(l ...int) []api.FlatPoint {
	var c []api.FlatPoint
	for i := 0; i < len(l); i += 2 {
		c = append(c, api.FlatPoint{At: l[i], Height: l[i+1]})
	}
	return c
}

func strip(lo, hi, wear int) api.FlatStrip {
	return api.FlatStrip{Edges: ends(lo, hi), Wear: wear}
}

func strips(l ...api.FlatStrip) []api.FlatStrip {
	return l
}

func heat(around, cooling, between int) api.FlatHeat {
	return api.FlatHeat{Around: around, Cooling: cooling, Between: between}
}

// repeated is a number so many times.
func repeated(n, count int) []int {
	return slices.Repeat(numbers(n), count)
}

// with is a copy of numbers in which one is another one.
func with(l []int, i, n int) []int {
	l = slices.Clone(l)
	l[i] = n
	return l
}

// wantErrors mends one fault after another, and wants the error of each.
func wantErrors(t *testing.T, call func() api.Errno, steps ...step) {
	t.Helper()
	for i, s := range steps {
		if e := call(); e != s.want {
			t.Errorf("step %d: %v in place of %v", i, e, s.want)
		}
		s.mend()
	}
	if e := call(); e != api.OK {
		t.Errorf("mended: %v", e)
	}
}

// step is an error, and how the fault is mended.
type step struct {
	want api.Errno
	mend func()
}

// copied is a value that shares no memory with x, and in which empty slices are
// nil ones.
func copied(x reflect.Value) reflect.Value {
	y := reflect.New(x.Type()).Elem()
	switch x.Kind() {
	case reflect.Slice:
		for i := range x.Len() {
			y = reflect.Append(y, copied(x.Index(i)))
		}
	case reflect.Struct:
		for i := range x.NumField() {
			if y.Field(i).CanSet() {
				y.Field(i).Set(copied(x.Field(i)))
			}
		}
	default:
		y.Set(x)
	}
	return y
}

func copyOf[T any](x T) T {
	return copied(reflect.ValueOf(x)).Interface().(T)
}

func alike(a, b any) bool {
	return reflect.DeepEqual(copied(reflect.ValueOf(a)).Interface(), copied(reflect.ValueOf(b)).Interface())
}

// wantSeen wants that each of some kinds was seen at least so many times.
func wantSeen[T comparable](t *testing.T, seen map[T]int, least int, kinds ...T) {
	t.Helper()
	for _, kind := range kinds {
		if seen[kind] < least {
			t.Error("too few of a kind", kind, seen)
		}
	}
}

// The functions 'byHand' follow the definitions of the chapter word by word, with
// fractions of any size.

func rat(num, den int) *big.Rat {
	return big.NewRat(int64(num), int64(den))
}

func ratio(f api.Frac) *big.Rat {
	return rat(f.Num, f.Den)
}

// fracOf is a fraction in lowest terms.
func fracOf(x *big.Rat) api.Frac {
	return frac(int(x.Num().Int64()), int(x.Denom().Int64()))
}

// isSmall tells whether both parts are at most MaxPart in size.
func isSmall(x *big.Rat) bool {
	most := big.NewInt(api.MaxPart)
	return x.Num().CmpAbs(most) <= 0 && x.Denom().CmpAbs(most) <= 0
}

func over(x, y *big.Rat) *big.Rat {
	return new(big.Rat).Quo(x, y)
}

func minus(x, y *big.Rat) *big.Rat {
	return new(big.Rat).Sub(x, y)
}

func times(x, y *big.Rat) *big.Rat {
	return new(big.Rat).Mul(x, y)
}

func sum(l ...int) int {
	s := 0
	for _, n := range l {
		s += n
	}
	return s
}

func abs(n int) int {
	return max(n, -n)
}

func crownByHand(p []int) *big.Rat {
	return minus(rat(p[len(p)/2], 1), rat(p[0]+p[len(p)-1], 2))
}

func changesByHand(before, after []int) []*big.Rat {
	var l []*big.Rat
	for i := range before {
		mean := rat(sum(before...), sum(after...))
		l = append(l, minus(over(rat(before[i], after[i]), mean), rat(1, 1)))
	}
	return l
}

func answersByHand(r api.FlatLaw, changes []api.Frac) []int {
	var l []int
	for i, change := range changes {
		limits := r.Center
		if i == 0 || i == len(changes)-1 {
			limits = r.Edge
		}
		answer := api.AnswerMaybe
		millionths := times(rat(1000000, 1), ratio(change))
		if millionths.Cmp(rat(limits.Hi, 1)) > 0 {
			answer = api.AnswerYes
		} else if millionths.Cmp(rat(limits.Lo, 1)) <= 0 {
			answer = api.AnswerNo
		}
		l = append(l, answer)
	}
	return l
}

// settingsByHand are all whole settings in the ranges.
func settingsByHand(r api.FlatRules) [][]int {
	l := [][]int{nil}
	for _, a := range r.Actors {
		var longer [][]int
		for _, settings := range l {
			for n := a.Settings.Lo; n <= a.Settings.Hi; n++ {
				longer = append(longer, append(slices.Clone(settings), n))
			}
		}
		l = longer
	}
	return l
}

func deviationsByHand(r api.FlatRules, settings []int) []int {
	var l []int
	for i := range r.Target {
		s := 0
		for k, a := range r.Actors {
			s += settings[k] * a.Effects[i]
		}
		l = append(l, r.Target[i]-s)
	}
	return l
}

func maximumByHand(r api.FlatRules, settings []int) int {
	var l []int
	for _, n := range deviationsByHand(r, settings) {
		l = append(l, abs(n))
	}
	return slices.Max(l)
}

func bestByHand(r api.FlatRules) ([]int, int) {
	l := settingsByHand(r)
	slices.SortFunc(l, func(a, b []int) int {
		if n := maximumByHand(r, a) - maximumByHand(r, b); n != 0 {
			return n
		}
		return slices.Compare(a, b)
	})
	return l[0], maximumByHand(r, l[0])
}

func boundByHand(r api.FlatRules, weights []int) *big.Rat {
	bound, sizes := 0, 0
	for i, w := range weights {
		bound += w * r.Target[i]
		sizes += abs(w)
	}
	for _, a := range r.Actors {
		c := 0
		for i, w := range weights {
			c += w * a.Effects[i]
		}
		bound -= max(c*a.Settings.Lo, c*a.Settings.Hi)
	}
	return rat(bound, sizes)
}

// keepsByHand tells whether settings keep a tolerance at some positions.
func keepsByHand(r api.FlatRules, settings []int, tolerance int, positions []int) bool {
	l := deviationsByHand(r, settings)
	for _, i := range positions {
		if abs(l[i]) > tolerance {
			return false
		}
	}
	return true
}

// areKeptByHand tells whether some settings keep a tolerance at some positions.
func areKeptByHand(r api.FlatRules, tolerance int, positions []int) bool {
	return slices.ContainsFunc(settingsByHand(r), func(settings []int) bool {
		return keepsByHand(r, settings, tolerance, positions)
	})
}

func withinByHand(r api.FlatRules, tolerance int) [][]int {
	var l [][]int
	for _, settings := range settingsByHand(r) {
		if maximumByHand(r, settings) <= tolerance {
			l = append(l, settings)
		}
	}
	slices.SortFunc(l, slices.Compare)
	return l
}

// contradictingByHand looks at all sets of positions.
func contradictingByHand(r api.FlatRules, tolerance int) []int {
	var best []int
	for bits := range 1 << len(r.Target) {
		var set []int
		for i := range r.Target {
			if bits>>i&1 == 1 {
				set = append(set, i)
			}
		}
		if areKeptByHand(r, tolerance, set) {
			continue
		}
		if best == nil || len(set) < len(best) || len(set) == len(best) && slices.Compare(set, best) < 0 {
			best = set
		}
	}
	return best
}

// heightByHand is the height of the line through the points beside a position.
func heightByHand(c []api.FlatPoint, at int) *big.Rat {
	i := 0
	for i < len(c)-2 && c[i+1].At < at {
		i++
	}
	part := rat(at-c[i].At, c[i+1].At-c[i].At)
	rise := times(part, rat(c[i+1].Height-c[i].Height, 1))
	return rise.Add(rise, rat(c[i].Height, 1))
}

func wornByHand(c []api.FlatPoint, l []api.FlatStrip) []api.FlatPoint {
	var worn []api.FlatPoint
	for _, p := range c {
		for _, s := range l {
			if p.At >= s.Edges.Lo && p.At <= s.Edges.Hi {
				p.Height -= s.Wear
			}
		}
		worn = append(worn, p)
	}
	return worn
}

// downByHand is the greatest whole number that is not above a number.
func downByHand(x *big.Rat) int {
	f, _ := x.Float64()
	n := int(f) + 2
	for rat(n, 1).Cmp(x) > 0 {
		n--
	}
	return n
}

func heatedByHand(t []int, h api.FlatHeat, steps int) []int {
	for range steps {
		var l []int
		for i := range t {
			gain := (h.Around - t[i]) * h.Cooling
			if i > 0 {
				gain += (t[i-1] - t[i]) * h.Between
			}
			if i+1 < len(t) {
				gain += (t[i+1] - t[i]) * h.Between
			}
			l = append(l, t[i]+downByHand(rat(gain, 1000)))
		}
		t = l
	}
	return t
}

// The functions 'random' return valid values, among them those at the limits.

// randomFrom is a number from lo to hi, often one of both.
func randomFrom(rnd *rand.Rand, lo, hi int) int {
	switch rnd.Intn(8) {
	case 0:
		return lo
	case 1:
		return hi
	}
	return lo + rnd.Intn(hi-lo+1)
}

func randomNumbers(rnd *rand.Rand, n, lo, hi int) []int {
	var l []int
	for range n {
		l = append(l, randomFrom(rnd, lo, hi))
	}
	return l
}

func randomEnds(rnd *rand.Rand, lo, hi int) api.Range {
	l := randomNumbers(rnd, 2, lo, hi)
	return ends(slices.Min(l), slices.Max(l))
}

func randomCount(rnd *rand.Rand) int {
	return 3 + 2*rnd.Intn(4)
}

func randomProfile(rnd *rand.Rand, n, most int) []int {
	return randomNumbers(rnd, n, 1, most)
}

// ruleSizes are how great the numbers of random rules are at most.
type ruleSizes struct{ positions, target, actors, setting, effect int }

// smallSizes are so small that all sets of positions may be tried.
func smallSizes() ruleSizes {
	return ruleSizes{5, 12, 2, 3, 4}
}

// fullSizes are the limits.
func fullSizes() ruleSizes {
	return ruleSizes{api.MaxFlatNodes, api.MaxFlatTarget, api.MaxFlatActors, api.MaxFlatSetting, api.MaxFlatEffect}
}

func randomRules(rnd *rand.Rand, s ruleSizes) api.FlatRules {
	n := randomFrom(rnd, 1, s.positions)
	r := rules(randomNumbers(rnd, n, -s.target, s.target))
	for range randomFrom(rnd, 1, s.actors) {
		r.Actors = append(r.Actors, api.FlatActor{
			Settings: randomEnds(rnd, -s.setting, s.setting),
			Effects:  randomNumbers(rnd, n, -s.effect, s.effect),
		})
	}
	return r
}

// narrowRules have positions of which each one breaks one or two of four settings, by
// a tolerance of 2.
func narrowRules(rnd *rand.Rand) api.FlatRules {
	r := rules(nil, actor(0, 1), actor(0, 1))
	for range randomFrom(rnd, 3, 6) {
		first, second := []int{-2, 2}[rnd.Intn(2)], []int{-2, 2}[rnd.Intn(2)]
		target := max(first, 0) + max(second, 0) - 4
		if rnd.Intn(3) == 0 {
			target, first, second = first+second, 2*first, 2*second
		}
		r.Target = append(r.Target, target)
		r.Actors[0].Effects = append(r.Actors[0].Effects, first)
		r.Actors[1].Effects = append(r.Actors[1].Effects, second)
	}
	return r
}

// greatRules have great bounds of great weights.
func greatRules(rnd *rand.Rand) api.FlatRules {
	r := rules(randomNumbers(rnd, 9, 99990, 100000))
	for range 1 + rnd.Intn(3) {
		r.Actors = append(r.Actors, actor(-10, -9, randomNumbers(rnd, 9, 990, 1000)...))
	}
	return r
}

func randomSettings(rnd *rand.Rand, r api.FlatRules) []int {
	var l []int
	for _, a := range r.Actors {
		l = append(l, randomFrom(rnd, a.Settings.Lo, a.Settings.Hi))
	}
	return l
}

// randomWeights are not all 0.
func randomWeights(rnd *rand.Rand, n, most int) []int {
	l := randomNumbers(rnd, n, -most, most)
	if slices.Max(l) == 0 && slices.Min(l) == 0 {
		l[rnd.Intn(n)] = 1
	}
	return l
}

func randomContour(rnd *rand.Rand, position, height int) []api.FlatPoint {
	at := randomNumbers(rnd, randomFrom(rnd, 2, api.MaxFlatPoints), 0, position)
	at = append(at, 0, position)
	slices.Sort(at)
	at = slices.Compact(at)
	at = at[max(0, len(at)-api.MaxFlatPoints):]
	var c []api.FlatPoint
	for _, n := range at {
		c = append(c, api.FlatPoint{At: n, Height: randomFrom(rnd, -height, height)})
	}
	return c
}

func randomStrips(rnd *rand.Rand, position int) []api.FlatStrip {
	var l []api.FlatStrip
	for range randomFrom(rnd, 0, api.MaxFlatStrips) {
		l = append(l, api.FlatStrip{Edges: randomEnds(rnd, 0, position), Wear: randomFrom(rnd, 0, api.MaxFlatWear)})
	}
	return l
}

func randomHeat(rnd *rand.Rand, size int) api.FlatHeat {
	between := randomFrom(rnd, 0, api.FlatPart/2)
	return heat(randomFrom(rnd, -size, size), randomFrom(rnd, 0, api.FlatPart-2*between), between)
}
