package trace

import (
	"iter"
	"slices"

	"cobble/api"
)

// knot is a position, and where a map takes it.
type knot struct{ in, out exact }

// piece is the two ends of a straight part of a map, or of a section of a strip.
type piece [2]knot

func (p piece) has(in exact) bool {
	return !in.less(p[0].in) && !p[1].in.less(in)
}

// valueAt is the value of the straight line through both ends.
func (p piece) valueAt(in exact) exact {
	rise := p[1].out.minus(p[0].out).over(p[1].in.minus(p[0].in))
	return p[0].out.plus(in.minus(p[0].in).times(rise))
}

// line is the knots of a map, whose fractions may have any size.
type line []knot

func lineOf(m api.TraceMap) line {
	var l line
	for _, k := range m.Knots {
		l = append(l, knot{exactOf(k.In), exactOf(k.Out)})
	}
	return l
}

// result is a map with these knots, or the error of their parts.
func (l line) result() (api.TraceMap, api.Errno) {
	var m api.TraceMap
	for _, k := range l {
		in, wrongIn := k.in.frac()
		out, wrongOut := k.out.frac()
		if e := firstError(wrongIn, wrongOut); e != api.OK {
			return api.TraceMap{}, e
		}
		m.Knots = append(m.Knots, api.TraceKnot{In: in, Out: out})
	}
	return m, api.OK
}

// pieces yields the pieces between neighbouring knots.
func (l line) pieces() iter.Seq[piece] {
	return func(yield func(piece) bool) {
		for i := range len(l) - 1 {
			if !yield(piece{l[i], l[i+1]}) {
				return
			}
		}
	}
}

// valueAt is the value at a position, and whether there is one.
func (l line) valueAt(in exact) (exact, bool) {
	for p := range l.pieces() {
		if p.has(in) {
			return p.valueAt(in).reduced(), true
		}
	}
	return exact{}, false
}

func (l line) inverse() line {
	var inverse line
	for _, k := range l {
		inverse = append(inverse, knot{k.out, k.in})
	}
	return inverse
}

// simple is the same map without the knots that lie on the straight line between their
// neighbours.
func (l line) simple() line {
	var simple line
	for i, k := range l {
		inside := 0 < i && i < len(l)-1
		if !inside || (piece{l[i-1], l[i+1]}).valueAt(k.in).compare(k.out) != 0 {
			simple = append(simple, k)
		}
	}
	return simple
}

// composed is the composition of two maps; it has fewer than two knots if it is not
// defined at two positions.
func (l line) composed(next line) line {
	back := l.inverse()
	var both line
	for _, k := range slices.Concat(back, next) {
		in, isBefore := back.valueAt(k.in)
		out, isAfter := next.valueAt(k.in)
		if isBefore && isAfter {
			both = append(both, knot{in, out})
		}
	}
	byPosition := func(a, b knot) int { return a.in.compare(b.in) }
	slices.SortFunc(both, byPosition)
	both = slices.CompactFunc(both, func(a, b knot) bool { return byPosition(a, b) == 0 })
	return both.simple()
}
