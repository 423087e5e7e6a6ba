package gauge

import (
	"slices"

	"cobble/api"
)

// matrix is ranges of numbers, row by row.
type matrix [][]api.Range

// diagonal has a number in row k, column k, and 0 elsewhere.
func diagonal(n, number int) matrix {
	var m matrix
	for k := range n {
		row := make([]api.Range, n)
		row[k] = api.Range{Lo: number, Hi: number}
		m = append(m, row)
	}
	return m
}

// times is the product of two matrices.
func (m matrix) times(other matrix) matrix {
	product := make(matrix, len(m))
	for i, row := range m {
		for j := range other {
			var entry api.Range
			for k, r := range row {
				p := productOf(r, other[k][j])
				entry.Lo += p.Lo
				entry.Hi += p.Hi
			}
			product[i] = append(product[i], entry)
		}
	}
	return product
}

// productOf is the range of the products of numbers in two ranges.
func productOf(r, s api.Range) api.Range {
	var products []int
	for _, n := range endsOf(r) {
		for _, m := range endsOf(s) {
			products = append(products, n*m)
		}
	}
	return api.Range{Lo: slices.Min(products), Hi: slices.Max(products)}
}

// sizeOf is the maximum size in a range.
func sizeOf(r api.Range) int {
	return max(r.Hi, -r.Lo)
}

// matrix is that of a tick, times Den.
func (l loop) matrix() matrix {
	older := diagonal(len(l.coefficients), l.den)
	return append(matrix{l.coefficients}, older[:len(older)-1]...)
}

// power is the power of so many steps, and Den to this power.
func (l loop) power(steps int) (matrix, int) {
	m, den := diagonal(len(l.coefficients), 1), 1
	for range steps {
		m = l.matrix().times(m)
		den *= l.den
	}
	return m, den
}

// PowerOf returns the power of so many steps.
func PowerOf(l api.GaugeLoop, steps int) ([][]api.Range, api.Errno) {
	x, e := loopOf(l)
	if e := firstError(e, limit(0, api.MaxGaugeSteps)(steps)); e != api.OK {
		return nil, e
	}
	m, _ := x.power(steps)
	return m, api.OK
}

// checkProof returns the error of a proof.
func (c coefficients) checkProof(p api.GaugeProof) api.Errno {
	return firstError(
		limit(1, api.MaxGaugeSteps)(p.Steps),
		checkSame(len(c), len(p.Weights)),
		limit(1, api.MaxGaugeWeight)(p.Weights...))
}

// norm is the norm of a proof.
func (l loop) norm(p api.GaugeProof) api.Frac {
	var rows []api.Frac
	m, den := l.power(p.Steps)
	for i, row := range m {
		total := 0
		for j, r := range row {
			total += sizeOf(r) * p.Weights[j]
		}
		rows = append(rows, lowestTerms(total, p.Weights[i]*den))
	}
	return greatest(rows...)
}

// settles tells whether a proof with a norm settles its loop.
func settles(norm api.Frac) bool {
	return norm.Num < norm.Den
}

// NormOf returns the norm of a proof.
func NormOf(l api.GaugeLoop, p api.GaugeProof) (api.Frac, api.Errno) {
	x, e := loopOf(l)
	if e := firstError(e, x.checkProof(p)); e != api.OK {
		return api.Frac{}, e
	}
	norm := x.norm(p)
	return smallEnough(norm.Num, norm.Den)
}

// settling is the norm of a proof that must settle a loop.
func (l loop) settling(p api.GaugeProof) (api.Frac, api.Errno) {
	if e := l.checkProof(p); e != api.OK {
		return api.Frac{}, e
	}
	norm := l.norm(p)
	if !settles(norm) {
		return api.Frac{}, api.ErrProof
	}
	return norm, api.OK
}

// CheckSettling accepts a proof that settles a loop, and returns its norm.
func CheckSettling(l api.GaugeLoop, p api.GaugeProof) (api.Frac, api.Errno) {
	x, e := loopOf(l)
	if e != api.OK {
		return api.Frac{}, e
	}
	norm, e := x.settling(p)
	if e != api.OK {
		return api.Frac{}, e
	}
	return smallEnough(norm.Num, norm.Den)
}

// SettlingOf returns the proof that settles a loop with the weights 1 and the
// minimum number of steps.
func SettlingOf(l api.GaugeLoop) (api.GaugeProof, api.Errno) {
	x, e := loopOf(l)
	if e != api.OK {
		return api.GaugeProof{}, e
	}
	p := api.GaugeProof{Weights: slices.Repeat([]int{1}, len(l.Coefs))}
	for p.Steps < api.MaxGaugeSteps {
		p.Steps++
		if settles(x.norm(p)) {
			return p, api.OK
		}
	}
	return api.GaugeProof{}, api.ErrNone
}

// sizeBy is the maximum of the sizes of the numbers of a state, divided by their
// weights.
func (s state) sizeBy(weights []int) api.Frac {
	var sizes []api.Frac
	for i, n := range s.numbers {
		sizes = append(sizes, lowestTerms(max(n, -n), weights[i]*s.den))
	}
	return greatest(sizes...)
}

// GainBound returns the gain bound of a proof that settles an exact loop.
func GainBound(l api.GaugeLoop, p api.GaugeProof) (api.Frac, api.Errno) {
	x, e := exactLoopOf(l)
	if e != api.OK {
		return api.Frac{}, e
	}
	norm, e := x.settling(p)
	if e != api.OK {
		return api.Frac{}, e
	}
	// The numbers of a state are the response at a tick and at those before it.
	var sizes []api.Frac
	for s := range x.responses(p.Steps) {
		sizes = append(sizes, s.sizeBy(p.Weights))
	}
	total := sum(sizes...)
	return smallEnough(p.Weights[0]*total.Num*norm.Den, total.Den*(norm.Den-norm.Num))
}
