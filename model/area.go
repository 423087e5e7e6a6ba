package model

import (
	"iter"

	"cobble/api"
)

// parameters are a constant and a slope.
type parameters [2]api.Frac

// measure is by what the constant and the slope are multiplied before they are
// added.
type measure [2]int

// forceAt measures the force at a number; at 0 it is the constant.
func forceAt(at int) measure {
	return measure{1, at}
}

// slopeAlone measures the slope.
func slopeAlone() measure {
	return measure{0, 1}
}

// of is what is measured of a corner, whose parts are small.
func (m measure) of(p parameters) api.Frac {
	a, b := p[0], p[1]
	return lowestTerms(m[0]*a.Num*b.Den+m[1]*b.Num*a.Den, a.Den*b.Den)
}

// around is what is measured, rounded down and up. The parameters may have parts
// as great as MaxPart: only what is left of them beside whole numbers is brought
// over one Den.
func (m measure) around(p parameters) api.Range {
	down, parts, den := 0, 0, p[0].Den*p[1].Den
	for i, f := range p {
		whole, left := divided(m[i]*f.Num, f.Den)
		down += whole
		parts += left * (den / f.Den)
	}
	more, left := divided(parts, den)
	r := api.Range{Lo: down + more, Hi: down + more}
	if left > 0 {
		r.Hi++
	}
	return r
}

// divided rounds down, where Go's division rounds towards zero, and returns what is
// left, too; by is above 0.
func divided(n, by int) (int, int) {
	whole, left := n/by, n%by
	if left < 0 {
		return whole - 1, left + by
	}
	return whole, left
}

// stripe is the parameters of which what is measured lies between ends.
type stripe struct {
	measure
	ends api.Range
}

// stripeOf is the parameters that agree with a piece of evidence.
func stripeOf(x api.ModelEvidence) stripe {
	return stripe{forceAt(x.At), x.Force}
}

// holds tells whether parameters lie in a stripe. Its ends are whole numbers, so
// that what is rounded lies between them if the exact number does.
func (s stripe) holds(p parameters) bool {
	r := s.around(p)
	return s.ends.Lo <= r.Lo && r.Hi <= s.ends.Hi
}

// crossings yields where an edge of one stripe crosses an edge of another one.
// Parallel stripes have none.
func (s stripe) crossings(t stripe) iter.Seq[parameters] {
	return func(yield func(parameters) bool) {
		den := s.measure[0]*t.measure[1] - s.measure[1]*t.measure[0]
		if den == 0 {
			return
		}
		for _, n := range [2]int{s.ends.Lo, s.ends.Hi} {
			for _, m := range [2]int{t.ends.Lo, t.ends.Hi} {
				p := parameters{
					lowestTerms(n*t.measure[1]-m*s.measure[1], den),
					lowestTerms(m*s.measure[0]-n*t.measure[0], den),
				}
				if !yield(p) {
					return
				}
			}
		}
	}
}

// area is the parameters that lie in all of some stripes.
type area []stripe

// agreeing is the parameters in their ranges that agree with some evidence.
func (r ranges) agreeing(evidence ...api.ModelEvidence) area {
	a := area{{forceAt(0), r[0]}, {slopeAlone(), r[1]}}
	for _, x := range evidence {
		a = append(a, stripeOf(x))
	}
	return a
}

func (a area) holds(p parameters) bool {
	for _, s := range a {
		if !s.holds(p) {
			return false
		}
	}
	return true
}

// corners yields the corners of an area: there are some unless it is empty, since
// the ranges of the parameters bound it.
func (a area) corners(yield func(parameters) bool) {
	for i, s := range a {
		for _, t := range a[i+1:] {
			for p := range s.crossings(t) {
				if a.holds(p) && !yield(p) {
					return
				}
			}
		}
	}
}

// spanOver is the minimum and the maximum of what is measured of corners, or
// ErrClash if there are none.
func spanOver(corners iter.Seq[parameters], of func(parameters) api.Frac) (api.Span, api.Errno) {
	var s api.Span
	e := api.ErrClash
	for p := range corners {
		f := of(p)
		if e != api.OK || isLess(f, s.Lo) {
			s.Lo = f
		}
		if e != api.OK || isLess(s.Hi, f) {
			s.Hi = f
		}
		e = api.OK
	}
	return s, e
}

// isLess compares fractions whose parts are small.
func isLess(f, g api.Frac) bool {
	return f.Num*g.Den < g.Num*f.Den
}
