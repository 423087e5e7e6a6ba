package trace_test

import (
	"math/big"
	"math/rand"
	"reflect"
	"slices"
	"testing"

	"cobble/api"
	"cobble/trace"
)

// The values of the chapter's examples; tests change their own copies of them.

// exampleText is the string of the example 1.
const exampleText = "s1;1000*30,500*60;p 10,10;c 1000 5000"

func exampleCourse() api.TraceCourse {
	return course(numbers(1000, 500), numbers(30, 60), pass(10, 10), cut(1000, 5000))
}

// exampleMap is that from 0 to 1 step of the example 2.
func exampleMap() api.TraceMap {
	return mapOf(wholeKnot(0, 0), wholeKnot(1000, 3000), wholeKnot(1500, 6000))
}

// cutMap is that from 1 to 2 steps of the example 2.
func cutMap() api.TraceMap {
	return mapOf(wholeKnot(1000, 0), wholeKnot(5000, 4000))
}

// wholeMap is that from 0 to 2 steps of the example 2.
func wholeMap() api.TraceMap {
	return mapOf(knot(frac(1000, 3), frac(0, 1)), wholeKnot(1000, 2000), knot(frac(4000, 3), frac(4000, 1)))
}

func exampleReadings() []api.TraceReading {
	return []api.TraceReading{reading(1, 4500, false), reading(1, 500, false)}
}

func exampleMarks() api.TraceMarks {
	return marks(5, 100, 1300, 2500)
}

// exampleCauses are those of the example 7.
func exampleCauses() []api.TraceCause {
	return []api.TraceCause{cause("a", 0, 300, 400, 0), cause("b", 1, 900, 1100, 1000)}
}

func course(lengths, areas []int, steps ...api.TraceStep) api.TraceCourse {
	return api.TraceCourse{Slab: "s1", Lengths: lengths, Areas: areas, Steps: steps}
}

func pass(areas ...int) api.TraceStep {
	return api.TraceStep{Kind: api.TracePass, Areas: areas}
}

func cut(from, to int) api.TraceStep {
	return api.TraceStep{Kind: api.TraceCut, From: from, To: to}
}

func strip(sections ...api.TraceSection) api.TraceStrip {
	return api.TraceStrip{Sections: sections}
}

func section(length api.Frac, area int) api.TraceSection {
	return api.TraceSection{Length: length, Area: area}
}

func knot(in, out api.Frac) api.TraceKnot {
	return api.TraceKnot{In: in, Out: out}
}

func wholeKnot(in, out int) api.TraceKnot {
	return knot(frac(in, 1), frac(out, 1))
}

func mapOf(knots ...api.TraceKnot) api.TraceMap {
	return api.TraceMap{Knots: knots}
}

func reading(step, at int, present bool) api.TraceReading {
	return api.TraceReading{Step: step, At: at, Present: present}
}

func marks(tolerance int, positions ...int) api.TraceMarks {
	return api.TraceMarks{Marks: positions, Tolerance: tolerance}
}

func roll(name string, step, circumference int) api.TraceRoll {
	return api.TraceRoll{Name: name, Step: step, Circumference: circumference}
}

func cause(name string, step, from, to, period int) api.TraceCause {
	return api.TraceCause{Name: name, Step: step, From: from, To: to, Period: period}
}

func search(readings, candidates []api.TraceReading) api.TraceSearch {
	return api.TraceSearch{Readings: readings, Candidates: candidates}
}

func numbers(l ...int) []int {
	return l
}

func frac(num, den int) api.Frac {
	return api.Frac{Num: num, Den: den}
}

func whole(n int) api.Frac {
	return frac(n, 1)
}

// wantErrors mends one fault after another, and wants the error of each.
func wantErrors(t *testing.T, call func() api.Errno, steps ...step) {
	t.Helper()
	for i, s := range steps {
		if e := call(); e != s.want {
			t.Errorf("step %d: %v in place of %v", i, e, s.want)
		}
		s.mend()
	}
	if e := call(); e != api.OK {
		t.Errorf("mended: %v", e)
	}
}

// step is an error, and how the fault is mended.
type step struct {
	want api.Errno
	mend func()
}

// copied is a value that shares no memory with x, and in which empty slices are
// nil ones.
func copied(x reflect.Value) reflect.Value {
	y := reflect.New(x.Type()).Elem()
	switch x.Kind() {
	case reflect.Slice:
		for i := range x.Len() {
			y = reflect.Append(y, copied(x.Index(i)))
		}
	case reflect.Struct:
		for i := range x.NumField() {
			if y.Field(i).CanSet() {
				y.Field(i).Set(copied(x.Field(i)))
			}
		}
	default:
		y.Set(x)
	}
	return y
}

func copyOf[T any](x T) T {
	return copied(reflect.ValueOf(x)).Interface().(T)
}

func alike(a, b any) bool {
	return reflect.DeepEqual(copied(reflect.ValueOf(a)).Interface(), copied(reflect.ValueOf(b)).Interface())
}

// wantSame wants a result and an error of a call.
func wantSame(t *testing.T, what string, got any, e api.Errno, want any, f api.Errno) {
	t.Helper()
	if !alike(got, want) || e != f {
		t.Errorf("%s: %v, %v in place of %v, %v", what, got, e, want, f)
	}
}

// wantSeen wants that each of some kinds was seen at least so many times.
func wantSeen[T comparable](t *testing.T, seen map[T]int, least int, kinds ...T) {
	t.Helper()
	for _, kind := range kinds {
		if seen[kind] < least {
			t.Error("too few of a kind", kind, seen)
		}
	}
}

// The functions 'byHand' follow the definitions of the chapter word by word, in big
// fractions, and from step to step.

func rat(num, den int) *big.Rat {
	return big.NewRat(int64(num), int64(den))
}

func ratOf(f api.Frac) *big.Rat {
	return rat(f.Num, f.Den)
}

func sum(a, b *big.Rat) *big.Rat {
	return new(big.Rat).Add(a, b)
}

func difference(a, b *big.Rat) *big.Rat {
	return new(big.Rat).Sub(a, b)
}

func product(a, b *big.Rat) *big.Rat {
	return new(big.Rat).Mul(a, b)
}

func quotient(a, b *big.Rat) *big.Rat {
	return new(big.Rat).Quo(a, b)
}

func isLess(a, b *big.Rat) bool {
	return a.Cmp(b) < 0
}

func isWithin(a, lo, hi *big.Rat) bool {
	return !isLess(a, lo) && !isLess(hi, a)
}

// fracByHand is a fraction as a result, or the error of its parts.
func fracByHand(x *big.Rat) (api.Frac, api.Errno) {
	most := big.NewInt(api.MaxPart)
	if x.Num().CmpAbs(most) > 0 || x.Denom().Cmp(most) > 0 {
		return api.Frac{}, api.ErrLarge
	}
	return frac(int(x.Num().Int64()), int(x.Denom().Int64())), api.OK
}

// handStrip is a strip whose lengths have any size.
type handStrip struct {
	lengths []*big.Rat
	areas   []int
}

func (s handStrip) length() *big.Rat {
	l := rat(0, 1)
	for _, x := range s.lengths {
		l = sum(l, x)
	}
	return l
}

func (s handStrip) volume() *big.Rat {
	return s.volumeBefore(s.length())
}

// ends are the position 0, and the ends of all sections.
func (s handStrip) ends() []*big.Rat {
	ends := []*big.Rat{rat(0, 1)}
	for i, x := range s.lengths {
		ends = append(ends, sum(ends[i], x))
	}
	return ends
}

// volumeBefore is the volume of the strip before a position.
func (s handStrip) volumeBefore(position *big.Rat) *big.Rat {
	volume := rat(0, 1)
	for i, begin := range s.ends()[:len(s.areas)] {
		behind := difference(position, begin)
		if isLess(s.lengths[i], behind) {
			behind = s.lengths[i]
		}
		if behind.Sign() > 0 {
			volume = sum(volume, product(behind, rat(s.areas[i], 1)))
		}
	}
	return volume
}

// positionBehind is the position that has a volume of the strip before it.
func (s handStrip) positionBehind(volume *big.Rat) *big.Rat {
	position := rat(0, 1)
	for i, length := range s.lengths {
		all := product(length, rat(s.areas[i], 1))
		if !isLess(all, volume) {
			return sum(position, quotient(volume, rat(s.areas[i], 1)))
		}
		volume, position = difference(volume, all), sum(position, length)
	}
	return position
}

// stripByHand is the strip after a number of steps.
func stripByHand(c api.TraceCourse, steps int) handStrip {
	s := handStrip{areas: c.Areas}
	for _, length := range c.Lengths {
		s.lengths = append(s.lengths, rat(length, 1))
	}
	for _, x := range c.Steps[:steps] {
		if x.Kind == api.TracePass {
			s = s.passedByHand(x.Areas)
		} else {
			s = s.cutByHand(rat(x.From, 1), rat(x.To, 1))
		}
	}
	return s
}

func (s handStrip) passedByHand(areas []int) handStrip {
	next := handStrip{areas: areas}
	for i, length := range s.lengths {
		next.lengths = append(next.lengths, product(length, rat(s.areas[i], areas[i])))
	}
	return next
}

func (s handStrip) cutByHand(from, to *big.Rat) handStrip {
	var next handStrip
	ends := s.ends()
	for i := range s.lengths {
		lo, hi := ends[i], ends[i+1]
		if isLess(lo, from) {
			lo = from
		}
		if isLess(to, hi) {
			hi = to
		}
		if isLess(lo, hi) {
			next.lengths, next.areas = append(next.lengths, difference(hi, lo)), append(next.areas, s.areas[i])
		}
	}
	return next
}

// partsByHand is the error of the lengths of a strip, and of the ends of its sections.
func (s handStrip) partsByHand() api.Errno {
	for _, x := range append(s.ends(), s.lengths...) {
		if _, e := fracByHand(x); e != api.OK {
			return e
		}
	}
	return api.OK
}

// isOn tells whether a whole number is a position on the strip.
func (s handStrip) isOn(position int) bool {
	return isWithin(rat(position, 1), rat(0, 1), s.length())
}

// movedByHand is the position after other steps of the point at a position; nil if it is
// cut away.
func movedByHand(c api.TraceCourse, position *big.Rat, from, to int) *big.Rat {
	for k := from; k < to && position != nil; k++ {
		position = forthByHand(c, position, k)
	}
	for k := from; k > to; k-- {
		position = backByHand(c, position, k-1)
	}
	return position
}

func forthByHand(c api.TraceCourse, position *big.Rat, k int) *big.Rat {
	x := c.Steps[k]
	if x.Kind == api.TracePass {
		return stripByHand(c, k+1).positionBehind(stripByHand(c, k).volumeBefore(position))
	}
	if !isWithin(position, rat(x.From, 1), rat(x.To, 1)) {
		return nil
	}
	return difference(position, rat(x.From, 1))
}

func backByHand(c api.TraceCourse, position *big.Rat, k int) *big.Rat {
	x := c.Steps[k]
	if x.Kind == api.TracePass {
		return stripByHand(c, k).positionBehind(stripByHand(c, k+1).volumeBefore(position))
	}
	return sum(position, rat(x.From, 1))
}

// handKnot is a knot whose fractions have any size.
type handKnot struct{ in, out *big.Rat }

func (k handKnot) turned() handKnot {
	return handKnot{k.out, k.in}
}

// handMap is a map whose fractions have any size.
type handMap []handKnot

func handMapOf(m api.TraceMap) handMap {
	var h handMap
	for _, k := range m.Knots {
		h = append(h, handKnot{ratOf(k.In), ratOf(k.Out)})
	}
	return h
}

// line is the value at a position of the straight line through two knots.
func straight(a, b handKnot, in *big.Rat) *big.Rat {
	part := quotient(difference(in, a.in), difference(b.in, a.in))
	return sum(a.out, product(part, difference(b.out, a.out)))
}

// valueByHand is the value of a map; nil if there is none.
func (h handMap) valueByHand(in *big.Rat) *big.Rat {
	for i := range len(h) - 1 {
		if isWithin(in, h[i].in, h[i+1].in) {
			return straight(h[i], h[i+1], in)
		}
	}
	return nil
}

func (h handMap) inverseByHand() handMap {
	var inverse handMap
	for _, k := range h {
		inverse = append(inverse, k.turned())
	}
	return inverse
}

// simpleByHand leaves out one knot after another, as long as one lies on the straight
// line between its neighbours.
func (h handMap) simpleByHand() handMap {
	slices.SortFunc(h, func(a, b handKnot) int { return a.in.Cmp(b.in) })
	h = slices.CompactFunc(h, func(a, b handKnot) bool { return a.in.Cmp(b.in) == 0 })
	for i := 1; i < len(h)-1; i++ {
		if straight(h[i-1], h[i+1], h[i].in).Cmp(h[i].out) == 0 {
			return slices.Delete(slices.Clone(h), i, i+1).simpleByHand()
		}
	}
	return h
}

// resultByHand is a map as a result, or the error of its parts.
func (h handMap) resultByHand() (api.TraceMap, api.Errno) {
	var m api.TraceMap
	for _, k := range h {
		in, wrong := fracByHand(k.in)
		out, e := fracByHand(k.out)
		if wrong != api.OK || e != api.OK {
			return api.TraceMap{}, api.ErrLarge
		}
		m.Knots = append(m.Knots, knot(in, out))
	}
	return m, api.OK
}

// mapByHand has the points of all ends of sections between two numbers of steps.
func mapByHand(c api.TraceCourse, from, to int) handMap {
	var h handMap
	for k := from; k <= to; k++ {
		for _, end := range stripByHand(c, k).ends() {
			in := movedByHand(c, end, k, from)
			if out := movedByHand(c, in, from, to); out != nil {
				h = append(h, handKnot{in, out})
			}
		}
	}
	return h.simpleByHand()
}

// composedByHand looks at all positions at which one of both maps may have a bend.
func composedByHand(a, b handMap) handMap {
	var h handMap
	back := a.inverseByHand()
	for _, k := range slices.Concat(back, b) {
		if in, out := back.valueByHand(k.in), b.valueByHand(k.in); in != nil && out != nil {
			h = append(h, handKnot{in, out})
		}
	}
	return h.simpleByHand()
}

// oneOf is one of some values.
func oneOf[T any](rnd *rand.Rand, l ...T) T {
	return l[rnd.Intn(len(l))]
}

func several(n int, one func() int) []int {
	var l []int
	for range n {
		l = append(l, one())
	}
	return l
}

// floor is the greatest whole number that is not above a fraction.
func floor(x *big.Rat) int {
	return int(new(big.Int).Div(x.Num(), x.Denom()).Int64())
}

// positionOn is a random whole position on a strip, and often one of its ends, or one
// next to an end of a section.
func positionOn(rnd *rand.Rand, s handStrip) int {
	length := floor(s.length())
	switch rnd.Intn(3) {
	case 0:
		return min(floor(oneOf(rnd, s.ends()...))+rnd.Intn(2), length)
	case 1:
		return rnd.Intn(min(length, 20) + 1)
	}
	return rnd.Intn(length + 1)
}

// randomCut is a cut, and often one that keeps most of the strip.
func randomCut(rnd *rand.Rand, s handStrip) api.TraceStep {
	length := floor(s.length())
	from, to := positionOn(rnd, s), positionOn(rnd, s)
	if rnd.Intn(4) > 0 {
		from, to = rnd.Intn(length/8+1), length-rnd.Intn(length/8+1)
	}
	return cut(min(from, to), max(from, to))
}

// randomStep is a step that the strip allows, apart from the error of parts.
func randomStep(rnd *rand.Rand, s handStrip, areas func() int) api.TraceStep {
	x := randomCut(rnd, s)
	if rnd.Intn(2) == 0 || x.From == x.To || x.To > api.MaxTracePosition {
		return pass(several(len(s.areas), areas)...)
	}
	return x
}

// randomAreas are areas of which some leave large parts, and some do not.
func randomAreas(rnd *rand.Rand) func() int {
	return oneOf(rnd,
		func() int { return 1 + rnd.Intn(4) },
		func() int { return 1 << rnd.Intn(5) },
		func() int { return oneOf(rnd, 1, 2, 3, 4, 5, 6, 8, 9, 10, 12) },
		func() int { return 10 * (1 + rnd.Intn(9)) },
		func() int { return 1 + rnd.Intn(30) },
		anyArea(rnd))
}

func anyArea(rnd *rand.Rand) func() int {
	return func() int { return 1 + rnd.Intn(api.MaxTraceArea) }
}

// randomCourse is a valid course: steps that would leave large parts are left out.
func randomCourse(rnd *rand.Rand) api.TraceCourse {
	if rnd.Intn(4) == 0 {
		return roughCourse(rnd)
	}
	n, most, areas := 1+rnd.Intn(api.MaxTraceSections), oneOf(rnd, 10, 100, 1000, api.MaxTraceLength), randomAreas(rnd)
	c := course(several(n, func() int { return 1 + rnd.Intn(most) }), several(n, areas))
	return withSteps(rnd, c, areas)
}

// roughCourse is a valid course in which many positions on earlier strips have large
// parts: the second section begins at a multiple of the first area after the pass.
func roughCourse(rnd *rand.Rand) api.TraceCourse {
	area := anyArea(rnd)
	lengths := numbers(1+rnd.Intn(5), 1000*(1+rnd.Intn(20)))
	c := course(lengths, numbers(1+rnd.Intn(5), area()), pass(area(), 1000))
	return withSteps(rnd, c, func() int { return oneOf(rnd, 100, 200, 250, 500, 1000) })
}

// withSteps is a course with more steps.
func withSteps(rnd *rand.Rand, c api.TraceCourse, areas func() int) api.TraceCourse {
	s := stripByHand(c, len(c.Steps))
	for range rnd.Intn(api.MaxTraceSteps - len(c.Steps) + 1) {
		c.Steps = append(c.Steps, randomStep(rnd, s, areas))
		if next := stripByHand(c, len(c.Steps)); next.partsByHand() == api.OK {
			s = next
		} else {
			c.Steps = c.Steps[:len(c.Steps)-1]
		}
	}
	return c
}

// randomReading is a valid reading.
func randomReading(rnd *rand.Rand, c api.TraceCourse) api.TraceReading {
	k := rnd.Intn(len(c.Steps) + 1)
	return reading(k, positionOn(rnd, stripByHand(c, k)), rnd.Intn(2) == 0)
}

func randomReadings(rnd *rand.Rand, c api.TraceCourse, n int) []api.TraceReading {
	var l []api.TraceReading
	for range n {
		l = append(l, randomReading(rnd, c))
	}
	return l
}

// mustParse is the course with a string.
func mustParse(t *testing.T, text string) api.TraceCourse {
	t.Helper()
	c, e := trace.ParseCourse(text)
	if e != api.OK {
		t.Fatalf("%q: %v", text, e)
	}
	return c
}
