package roll_test

import (
	"math/big"
	"math/rand"
	"reflect"
	"slices"
	"testing"

	"cobble/api"
)

// The values of the chapter's examples; tests change their own copies of them.

func exampleDrum() api.RollDrum {
	return drum(4, 0)
}

func exampleWave() []int {
	return numbers(3, -5, -3, 5)
}

// risingWave is that of the example 2.
func risingWave() []int {
	return numbers(13, 7, 11, 21, 21, 15)
}

// examplePair is the rolls of the example 6.
func examplePair() [2]api.RollDrum {
	return pair(drum(4, 0), drum(8, 0))
}

// bothWaves is the record of the example 6.
func bothWaves() []int {
	return numbers(5, -3, -3, 5, 1, -7, -3, 5)
}

func exampleFit() api.RollFit {
	return fit(1, 3, 5, 2, 0)
}

func exampleMarks() api.RollMarks {
	return marks(2, 100, 1350, 2602)
}

func drum(period, offset int) api.RollDrum {
	return api.RollDrum{Name: "a", Period: period, Offset: offset}
}

func named(name string) api.RollDrum {
	return api.RollDrum{Name: name, Period: 4}
}

func pair(first, second api.RollDrum) [2]api.RollDrum {
	return [2]api.RollDrum{first, second}
}

func gauss(re, im int) api.Gauss {
	return api.Gauss{Re: re, Im: im}
}

func fit(den int, parts ...int) api.RollFit {
	return api.RollFit{Den: den, Parts: [4]int(parts)}
}

func marks(tolerance int, positions ...int) api.RollMarks {
	return api.RollMarks{Positions: positions, Tolerance: tolerance}
}

func numbers(l ...int) []int {
	return l
}

func ends(lo, hi int) api.Range {
	return api.Range{Lo: lo, Hi: hi}
}

func frac(num, den int) api.Frac {
	return api.Frac{Num: num, Den: den}
}

func amplitude(re, im api.Frac) api.RollAmplitude {
	return api.RollAmplitude{Re: re, Im: im}
}

func wholeAmplitude(re, im int) api.RollAmplitude {
	return amplitude(frac(re, 1), frac(im, 1))
}

// wantErrors mends one fault after another, and wants the error of each.
func wantErrors(t *testing.T, call func() api.Errno, steps ...step) {
	t.Helper()
	for i, s := range steps {
		if e := call(); e != s.want {
			t.Errorf("step %d: %v in place of %v", i, e, s.want)
		}
		s.mend()
	}
	if e := call(); e != api.OK {
		t.Errorf("mended: %v", e)
	}
}

// step is an error, and how the fault is mended.
type step struct {
	want api.Errno
	mend func()
}

// copied is a value that shares no memory with x, and in which empty slices are
// nil ones.
func copied(x reflect.Value) reflect.Value {
	y := reflect.New(x.Type()).Elem()
	switch x.Kind() {
	case reflect.Slice:
		for i := range x.Len() {
			y = reflect.Append(y, copied(x.Index(i)))
		}
	case reflect.Struct:
		for i := range x.NumField() {
			if y.Field(i).CanSet() {
				y.Field(i).Set(copied(x.Field(i)))
			}
		}
	default:
		y.Set(x)
	}
	return y
}

func copyOf[T any](x T) T {
	return copied(reflect.ValueOf(x)).Interface().(T)
}

func alike(a, b any) bool {
	return reflect.DeepEqual(copied(reflect.ValueOf(a)).Interface(), copied(reflect.ValueOf(b)).Interface())
}

// wantSeen wants that each of some kinds was seen at least so many times.
func wantSeen[T comparable](t *testing.T, seen map[T]int, least int, kinds ...T) {
	t.Helper()
	for _, kind := range kinds {
		if seen[kind] < least {
			t.Error("too few of a kind", kind, seen)
		}
	}
}

// The functions 'byHand' follow the definitions of the chapter word by word, with
// fractions of any size.

func rat(num, den int) *big.Rat {
	return big.NewRat(int64(num), int64(den))
}

func ratio(f api.Frac) *big.Rat {
	return rat(f.Num, f.Den)
}

// fracOf is a fraction in lowest terms.
func fracOf(x *big.Rat) api.Frac {
	return frac(int(x.Num().Int64()), int(x.Denom().Int64()))
}

// quarterByHand counts the quarters of a turn that lie before a sample.
func quarterByHand(d api.RollDrum, sample int) int {
	quarter := 0
	for at := (sample + d.Offset) % d.Period; at >= d.Period/4; at -= d.Period / 4 {
		quarter++
	}
	return quarter
}

func waveByHand(d api.RollDrum, g api.Gauss, count int) []int {
	var l []int
	for k := range count {
		l = append(l, [4]int{g.Re, -g.Im, -g.Re, g.Im}[quarterByHand(d, k)])
	}
	return l
}

func minus(x, y []int) []int {
	var l []int
	for k, n := range x {
		l = append(l, n-y[k])
	}
	return l
}

// wholeByHand is the number of the samples of the whole turns.
func wholeByHand(x []int, d api.RollDrum) int {
	n := 0
	for n+d.Period <= len(x) {
		n += d.Period
	}
	return n
}

func quartersByHand(x []int, d api.RollDrum) [4]int {
	var s [4]int
	for k := range wholeByHand(x, d) {
		s[quarterByHand(d, k)] += x[k]
	}
	return s
}

func sumByHand(x []int, d api.RollDrum) api.Gauss {
	s := quartersByHand(x, d)
	return gauss(s[0]-s[2], s[3]-s[1])
}

func amplitudeByHand(x []int, d api.RollDrum) (re, im *big.Rat) {
	sum, n := sumByHand(x, d), wholeByHand(x, d)
	return rat(2*sum.Re, n), rat(2*sum.Im, n)
}

func steadyByHand(x []int, d api.RollDrum) (re, im *big.Rat) {
	var differences []int
	for k := 0; k+d.Period/2 < len(x); k++ {
		differences = append(differences, x[k]-x[k+d.Period/2])
	}
	sum, m := sumByHand(differences, d), wholeByHand(differences, d)
	return rat(sum.Re, m), rat(sum.Im, m)
}

// powers are those of i, from that of 0 on.
func powers() [4]api.Gauss {
	return [4]api.Gauss{{Re: 1}, {Im: 1}, {Re: -1}, {Im: -1}}
}

func product(a, b api.Gauss) api.Gauss {
	return gauss(a.Re*b.Re-a.Im*b.Im, a.Re*b.Im+a.Im*b.Re)
}

func harmonicsByHand(s [4]int) [4]api.Gauss {
	var h [4]api.Gauss
	for n := range h {
		for q := range s {
			x := product(gauss(s[q], 0), powers()[(16-n*q)%4])
			h[n] = gauss(h[n].Re+x.Re, h[n].Im+x.Im)
		}
	}
	return h
}

// nearestByHand takes a whole number that is at most 1/2 away; of two ones, that
// which is smaller in size.
func nearestByHand(x *big.Rat) int {
	f, _ := x.Float64()
	best := int(f)
	for n := int(f) - 2; n <= int(f)+2; n++ {
		c := distance(x, n).Cmp(distance(x, best))
		if c < 0 || c == 0 && max(n, -n) < max(best, -best) {
			best = n
		}
	}
	return best
}

func distance(x *big.Rat, n int) *big.Rat {
	return new(big.Rat).Abs(new(big.Rat).Sub(x, rat(n, 1)))
}

func runByHand(x []int, d api.RollDrum) []int {
	l := slices.Clone(x)
	for k := d.Period; k < len(x); k++ {
		start := k/d.Period*d.Period - d.Period
		re, im := amplitudeByHand(x[start:start+d.Period], d)
		g := gauss(nearestByHand(re), nearestByHand(im))
		l[k] -= waveByHand(d, g, k+1)[k]
	}
	return l
}

// unitsByHand are the waves of the four parts.
func unitsByHand(l [2]api.RollDrum, count int) [4][]int {
	one, i := gauss(1, 0), gauss(0, 1)
	return [4][]int{waveByHand(l[0], one, count), waveByHand(l[0], i, count), waveByHand(l[1], one, count), waveByHand(l[1], i, count)}
}

// equationsByHand are what the equations of a fit leave, with parts over 1.
func equationsByHand(x []int, l [2]api.RollDrum, parts [4]*big.Rat) [4]*big.Rat {
	units := unitsByHand(l, len(x))
	var sums [4]*big.Rat
	for j := range sums {
		sums[j] = new(big.Rat)
		for k := range x {
			left := rat(x[k], 1)
			for i, part := range parts {
				left.Sub(left, new(big.Rat).Mul(rat(units[i][k], 1), part))
			}
			sums[j].Add(sums[j], left.Mul(left, rat(units[j][k], 1)))
		}
	}
	return sums
}

// solvedByHand is the parts of the only fit, by elimination; false if there is not
// exactly one.
func solvedByHand(x []int, l [2]api.RollDrum) ([4]*big.Rat, bool) {
	units := unitsByHand(l, len(x))
	var rows [4][5]*big.Rat
	for i := range rows {
		for j := range rows[i] {
			other := x
			if j < 4 {
				other = units[j]
			}
			sum := 0
			for k := range x {
				sum += units[i][k] * other[k]
			}
			rows[i][j] = rat(sum, 1)
		}
	}
	for i := range rows {
		at := slices.IndexFunc(rows[i:], func(r [5]*big.Rat) bool { return r[i].Sign() != 0 })
		if at < 0 {
			return [4]*big.Rat{}, false
		}
		rows[i], rows[i+at] = rows[i+at], rows[i]
		for j := range rows {
			if j != i {
				rows[j] = eliminated(rows[j], rows[i], i)
			}
		}
	}
	var parts [4]*big.Rat
	for i, r := range rows {
		parts[i] = new(big.Rat).Quo(r[4], r[i])
	}
	return parts, true
}

// eliminated is a row minus so much of another one that a column is 0.
func eliminated(row, other [5]*big.Rat, column int) [5]*big.Rat {
	factor := new(big.Rat).Quo(row[column], other[column])
	for j := range row {
		row[j] = new(big.Rat).Sub(row[j], new(big.Rat).Mul(factor, other[j]))
	}
	return row
}

// fitByHand brings the parts of the only fit over the smallest Den.
func fitByHand(x []int, l [2]api.RollDrum) (api.RollFit, bool) {
	parts, is := solvedByHand(x, l)
	if !is {
		return api.RollFit{}, false
	}
	den := big.NewInt(1)
	for _, part := range parts {
		common := new(big.Int).GCD(nil, nil, den, part.Denom())
		den.Mul(den, new(big.Int).Quo(part.Denom(), common))
	}
	f := api.RollFit{Den: int(den.Int64())}
	for i, part := range parts {
		f.Parts[i] = int(new(big.Rat).Mul(part, new(big.Rat).SetInt(den)).Num().Int64())
	}
	return f, true
}

// partsOf are the parts of a fit over 1.
func partsOf(f api.RollFit) [4]*big.Rat {
	var l [4]*big.Rat
	for i, n := range f.Parts {
		l[i] = rat(n, f.Den)
	}
	return l
}

// squaresByHand is the sum of the squares of what parts over 1 leave.
func squaresByHand(x []int, l [2]api.RollDrum, parts [4]*big.Rat) *big.Rat {
	units := unitsByHand(l, len(x))
	sum := new(big.Rat)
	for k := range x {
		left := rat(x[k], 1)
		for i, part := range parts {
			left.Sub(left, new(big.Rat).Mul(rat(units[i][k], 1), part))
		}
		sum.Add(sum, left.Mul(left, left))
	}
	return sum
}

// explainsByHand tells whether a phase explains positions.
func explainsByHand(tolerance, circumference, phase int, positions ...int) bool {
	for _, position := range positions {
		is := false
		for at := phase - 3*circumference; at <= position+circumference; at += circumference {
			is = is || max(position-at, at-position) <= tolerance
		}
		if !is {
			return false
		}
	}
	return true
}

// phasesByHand are all phases below the circumference that explain positions.
func phasesByHand(tolerance, circumference int, positions ...int) []int {
	var l []int
	for phase := range circumference {
		if explainsByHand(tolerance, circumference, phase, positions...) {
			l = append(l, phase)
		}
	}
	return l
}

// phasesIn are the numbers of a range, modulo the circumference, ascending.
func phasesIn(r api.Range, circumference int) []int {
	var l []int
	for n := r.Lo; n <= r.Hi; n++ {
		l = append(l, n%circumference)
	}
	slices.Sort(l)
	return l
}

func missingByHand(m api.RollMarks, circumference, lo int) []int {
	var l []int
	for at := m.Positions[0]; at <= m.Positions[len(m.Positions)-1]; at++ {
		if (at-lo)%circumference != 0 {
			continue
		}
		near := slices.ContainsFunc(m.Positions, func(position int) bool {
			return max(position-at, at-position) <= 2*m.Tolerance
		})
		if !near {
			l = append(l, at)
		}
	}
	return l
}

// contradictingByHand looks at all sets of marks.
func contradictingByHand(m api.RollMarks, circumference int) []int {
	var best []int
	for bits := range 1 << len(m.Positions) {
		var set, positions []int
		for i, position := range m.Positions {
			if bits>>i&1 == 1 {
				set, positions = append(set, i), append(positions, position)
			}
		}
		if len(phasesByHand(m.Tolerance, circumference, positions...)) > 0 {
			continue
		}
		if best == nil || len(set) < len(best) || len(set) == len(best) && slices.Compare(set, best) < 0 {
			best = set
		}
	}
	return best
}

// The functions 'random' return valid values, among them those at the limits.

// randomFrom is a number from lo to hi, often one of both.
func randomFrom(rnd *rand.Rand, lo, hi int) int {
	switch rnd.Intn(8) {
	case 0:
		return lo
	case 1:
		return hi
	}
	return lo + rnd.Intn(hi-lo+1)
}

func randomNumbers(rnd *rand.Rand, n, size int) []int {
	var l []int
	for range n {
		l = append(l, randomFrom(rnd, -size, size))
	}
	return l
}

func randomDrum(rnd *rand.Rand, most int) api.RollDrum {
	period := 4 * randomFrom(rnd, 1, most/4)
	return drum(period, randomFrom(rnd, 0, period-1))
}

func randomGauss(rnd *rand.Rand, size int) api.Gauss {
	return gauss(randomFrom(rnd, -size, size), randomFrom(rnd, -size, size))
}

// randomSize is small, or as great as a sample may be.
func randomSize(rnd *rand.Rand) int {
	return []int{3, 100, api.MaxRollSample}[rnd.Intn(3)]
}

// randomRecord has at least so many samples.
func randomRecord(rnd *rand.Rand, least, size int) []int {
	n := randomFrom(rnd, least, min(api.MaxRollSamples, 4*least))
	return randomNumbers(rnd, n, size)
}

// randomMarks have so many marks at positions up to most.
func randomMarks(rnd *rand.Rand, tolerance, count, most int) api.RollMarks {
	m := api.RollMarks{Tolerance: tolerance}
	for len(m.Positions) < count {
		at := randomFrom(rnd, 0, most)
		if !slices.Contains(m.Positions, at) {
			m.Positions = append(m.Positions, at)
		}
	}
	slices.Sort(m.Positions)
	return m
}

// recurring are marks at a phase plus different multiples of a circumference, each
// wrong by at most the tolerance.
func recurring(rnd *rand.Rand, tolerance, circumference, phase, turns int) api.RollMarks {
	m := api.RollMarks{Tolerance: tolerance}
	for n := range turns {
		at := phase + n*circumference + randomFrom(rnd, -tolerance, tolerance)
		if at >= 0 && at <= api.MaxRollMark && rnd.Intn(4) > 0 {
			m.Positions = append(m.Positions, at)
		}
	}
	return m
}
