package roll

import (
	"slices"

	"cobble/api"
)

// parts is how many parts the amplitudes of two rolls have.
const parts = 4

// pair is two rolls that have no error.
type pair [2]drum

// pairFor returns the errors of a record and two rolls.
func pairFor(x []int, l [2]api.RollDrum) (pair, api.Errno) {
	e := firstError(CheckRecord(x), CheckDrum(l[0]), CheckDrum(l[1]))
	if e != api.OK {
		return pair{}, e
	}
	return pair{{l[0]}, {l[1]}}, api.OK
}

// unitsAt is, for each part, the wave of its roll at a sample if this part is 1 and
// the other one 0.
func (p pair) unitsAt(sample int) [parts]int {
	var b [parts]int
	for i, d := range p {
		b[2*i], b[2*i+1] = d.waveAt(sample, 1), d.waveAt(sample, 1i)
	}
	return b
}

// remainder is Den times a record minus both waves with the amplitudes of the parts.
func (p pair) remainder(x []int, f api.RollFit) []int {
	var l []int
	for k, sample := range x {
		left := f.Den * sample
		for i, d := range p {
			left -= d.waveAt(k, complexOf(f.Parts[2*i], f.Parts[2*i+1]))
		}
		l = append(l, left)
	}
	return l
}

// products are, for each part, the sum of the products of its wave and a record.
func (p pair) products(x []int) [parts]int {
	var sums [parts]int
	for k, sample := range x {
		for i, b := range p.unitsAt(k) {
			sums[i] += b * sample
		}
	}
	return sums
}

// columns are, for each part, the products of its own wave of so many samples: a
// fit is the parts by which they add up to the products of the record.
func (p pair) columns(count int) [parts][parts]int {
	var l [parts][parts]int
	for k := range count {
		units := p.unitsAt(k)
		for i, b := range units {
			for j, other := range units {
				l[i][j] += b * other
			}
		}
	}
	return l
}

// determinant is that of as many columns as rows. It adds up products without a
// division: numbers of columns are at most MaxRollSamples, and those of one that is
// replaced at most MaxRollSamples times MaxRollSample, so that no sum leaves an int.
func determinant(columns [][parts]int, rows ...int) int {
	if len(rows) == 0 {
		return 1
	}
	sum, sign := 0, 1
	for i, row := range rows {
		others := slices.Delete(slices.Clone(rows), i, i+1)
		sum += sign * columns[0][row] * determinant(columns[1:], others...)
		sign = -sign
	}
	return sum
}

// divisorOf is the greatest number that divides Den and all parts.
func divisorOf(f api.RollFit) int {
	return divisor(append(f.Parts[:], f.Den)...)
}

// reduced is a fit whose Den is not 0.
func reduced(f api.RollFit) api.RollFit {
	d := divisorOf(f)
	f.Den /= d
	for i := range f.Parts {
		f.Parts[i] /= d
	}
	return f
}

// FitOf returns the reduced fit of two rolls to a record.
func FitOf(x []int, l [2]api.RollDrum) (api.RollFit, api.Errno) {
	p, e := pairFor(x, l)
	if e != api.OK {
		return api.RollFit{}, e
	}
	columns := p.columns(len(x))
	solved := func(columns [parts][parts]int) int { return determinant(columns[:], 0, 1, 2, 3) }
	f := api.RollFit{Den: solved(columns)}
	if f.Den == 0 {
		return api.RollFit{}, api.ErrNone
	}
	for i := range f.Parts {
		replaced := columns
		replaced[i] = p.products(x)
		f.Parts[i] = solved(replaced)
	}
	f = reduced(f)
	if size(api.MaxRollFit)(f.Parts[:]...) != api.OK {
		return api.RollFit{}, api.ErrLarge
	}
	return f, api.OK
}

// CheckFit accepts the reduced fit; it returns the first error, and the index of
// its part.
func CheckFit(x []int, l [2]api.RollDrum, f api.RollFit) (int, api.Errno) {
	p, e := pairFor(x, l)
	if e := firstError(e, limit(1, api.MaxRollDen)(f.Den)); e != api.OK {
		return 0, e
	}
	for i, n := range f.Parts {
		if e := size(api.MaxRollFit)(n); e != api.OK {
			return i, e
		}
	}
	if divisorOf(f) != 1 {
		return 0, api.ErrForm
	}
	if left := p.products(p.remainder(x, f)); left != [parts]int{} {
		return slices.IndexFunc(left[:], func(n int) bool { return n != 0 }), api.ErrProof
	}
	return 0, api.OK
}

// ErrorOf returns the sum of the squares of what whole amplitudes leave.
func ErrorOf(x []int, l [2]api.RollDrum, g [2]api.Gauss) (int, api.Errno) {
	p, e := pairFor(x, l)
	if e := firstError(e, checkAmplitude(g[:]...)); e != api.OK {
		return 0, e
	}
	whole := api.RollFit{Den: 1, Parts: [parts]int{g[0].Re, g[0].Im, g[1].Re, g[1].Im}}
	sum := 0
	for _, left := range p.remainder(x, whole) {
		sum += left * left
	}
	return sum, api.OK
}
