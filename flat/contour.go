package flat

import (
	"slices"

	"cobble/api"
)

// CheckContour returns the first error of a contour, and the index of its point.
func CheckContour(c []api.FlatPoint) (int, api.Errno) {
	if e := checkCount(len(c), 2, api.MaxFlatPoints); e != api.OK {
		return 0, e
	}
	before := -1
	return firstWrong(c, func(p api.FlatPoint) api.Errno {
		e := firstError(limit(0, api.MaxFlatPosition)(p.At), size(api.MaxFlatHeight)(p.Height))
		if e == api.OK && p.At <= before {
			return api.ErrOrder
		}
		before = p.At
		return e
	})
}

// piece is two neighbours of a contour, which is straight between them.
type piece [2]api.FlatPoint

func (p piece) has(at int) bool {
	return p[0].At <= at && at <= p[1].At
}

func (p piece) heightAt(at int) api.Frac {
	length, rise := p[1].At-p[0].At, p[1].Height-p[0].Height
	return lowestTerms(p[0].Height*length+rise*(at-p[0].At), length)
}

// HeightAt returns the height of a contour at a position.
func HeightAt(c []api.FlatPoint, at int) (api.Frac, api.Errno) {
	if _, e := CheckContour(c); e != api.OK {
		return api.Frac{}, e
	}
	for i := range len(c) - 1 {
		if p := piece(c[i : i+2]); p.has(at) {
			return p.heightAt(at), api.OK
		}
	}
	return api.Frac{}, api.ErrOpen
}

// checkStrip returns the first error of a strip.
func checkStrip(s api.FlatStrip) api.Errno {
	return firstError(
		limit(0, api.MaxFlatPosition)(s.Edges.Lo, s.Edges.Hi),
		checkEnds(s.Edges),
		limit(0, api.MaxFlatWear)(s.Wear))
}

// wear returns what a strip makes of a point.
func wear(s api.FlatStrip) func(api.FlatPoint) api.FlatPoint {
	return func(p api.FlatPoint) api.FlatPoint {
		if s.Edges.Lo <= p.At && p.At <= s.Edges.Hi {
			p.Height -= s.Wear
		}
		return p
	}
}

// Worn returns a contour after strips.
func Worn(c []api.FlatPoint, l []api.FlatStrip) ([]api.FlatPoint, api.Errno) {
	_, e := CheckContour(c)
	_, wrong := firstWrong(l, checkStrip)
	e = firstError(e, checkCount(len(l), 0, api.MaxFlatStrips), wrong)
	if e != api.OK {
		return nil, e
	}
	worn := slices.Clone(c)
	for _, s := range l {
		worn = each(worn, wear(s))
	}
	return worn, api.OK
}
