package model

import (
	"iter"
	"slices"

	"cobble/api"
)

// ranges are those of the constant and of the slope.
type ranges [2]api.Range

// law is a law that has no error.
type law struct {
	ranges
	evidence []api.ModelEvidence
}

// lawOf returns the error of a law.
func lawOf(l api.ModelLaw) (law, api.Errno) {
	if _, e := CheckLaw(l); e != api.OK {
		return law{}, e
	}
	return law{ranges{l.Constant, l.Slope}, l.Evidence}, api.OK
}

// CheckLaw returns the first error of a law, and the index of its evidence.
func CheckLaw(l api.ModelLaw) (int, api.Errno) {
	e := firstError(
		checkForces(l.Constant, l.Slope),
		checkEnds(l.Constant, l.Slope))
	if e != api.OK {
		return 0, e
	}
	if len(l.Evidence) > api.MaxModelEvidence {
		return 0, api.ErrLarge
	}
	for i, x := range l.Evidence {
		if e := firstError(checkAt(x.At), checkForces(x.Force), checkEnds(x.Force)); e != api.OK {
			return i, e
		}
	}
	return 0, api.OK
}

// checkForces returns the error of ranges whose ends are too great in size.
func checkForces(l ...api.Range) api.Errno {
	for _, r := range l {
		if e := size(api.MaxModelLaw)(r.Lo, r.Hi); e != api.OK {
			return e
		}
	}
	return api.OK
}

func checkAt(at int) api.Errno {
	return size(api.MaxModelAt)(at)
}

// area is the parameters of the laws that agree.
func (l law) area() area {
	return l.agreeing(l.evidence...)
}

// PredictionAt returns the span of the force at a number, of all laws that agree.
func PredictionAt(l api.ModelLaw, at int) (api.Span, api.Errno) {
	x, e := lawOf(l)
	if e := firstError(e, checkAt(at)); e != api.OK {
		return api.Span{}, e
	}
	return spanOver(x.area().corners, forceAt(at).of)
}

// ParametersOf returns the spans of the constant and of the slope, of all laws that
// agree.
func ParametersOf(l api.ModelLaw) ([2]api.Span, api.Errno) {
	x, e := lawOf(l)
	if e != api.OK {
		return [2]api.Span{}, e
	}
	corners := x.area().corners
	constant, e := spanOver(corners, forceAt(0).of)
	slope, f := spanOver(corners, slopeAlone().of)
	return [2]api.Span{constant, slope}, firstError(e, f)
}

// PointOf returns the parameters of a law that agrees.
func PointOf(l api.ModelLaw) (api.ModelPoint, api.Errno) {
	x, e := lawOf(l)
	if e != api.OK {
		return api.ModelPoint{}, e
	}
	for p := range x.area().corners {
		return api.ModelPoint{Constant: p[0], Slope: p[1]}, api.OK
	}
	return api.ModelPoint{}, api.ErrClash
}

// CheckPoint accepts parameters that agree; it returns the first error, and the
// index of its evidence.
func CheckPoint(l api.ModelLaw, p api.ModelPoint) (int, api.Errno) {
	x, e := lawOf(l)
	e = firstError(e,
		checkForm(p.Constant, p.Slope),
		size(api.MaxPart)(p.Constant.Num, p.Constant.Den, p.Slope.Num, p.Slope.Den))
	if e != api.OK {
		return 0, e
	}
	q := parameters{p.Constant, p.Slope}
	if !x.agreeing().holds(q) {
		return 0, api.ErrRange
	}
	for i, evidence := range x.evidence {
		if !stripeOf(evidence).holds(q) {
			return i, api.ErrProof
		}
	}
	return 0, api.OK
}

// contradicts tells whether no law agrees with the ranges and some evidence alone.
func (l law) contradicts(indexes []int) bool {
	var some []api.ModelEvidence
	for _, i := range indexes {
		some = append(some, l.evidence[i])
	}
	for range l.agreeing(some...).corners {
		return false
	}
	return true
}

// Contradicting returns the minimum set of evidence that contradicts itself.
func Contradicting(l api.ModelLaw) ([]int, api.Errno) {
	x, e := lawOf(l)
	if e != api.OK {
		return nil, e
	}
	for set := range setsBelow(len(x.evidence)) {
		if x.contradicts(set) {
			return set, api.OK
		}
	}
	return nil, api.ErrNone
}

// maxContradicting is how many pieces of evidence a minimum set that contradicts
// itself has at most: convex areas of a plane have a point in common if any three
// of them have one.
const maxContradicting = 3

// setsBelow yields the sets of at most maxContradicting numbers from 0 to n - 1:
// the smaller ones first, and those of one size in lexicographic order. A set that
// is yielded is the receiver's own.
func setsBelow(n int) iter.Seq[[]int] {
	return func(yield func([]int) bool) {
		// Sets wait in the order of their sizes, since each one is put behind all
		// others when it is made from one that is smaller by one.
		waiting := [][]int{nil}
		for len(waiting) > 0 {
			set := waiting[0]
			waiting = append(waiting[1:], enlarged(set, n)...)
			if !yield(set) {
				return
			}
		}
	}
}

// enlarged are the sets that have one number more than a set, behind its others.
func enlarged(set []int, n int) [][]int {
	var l [][]int
	for next := range n {
		if len(set) < maxContradicting && (len(set) == 0 || next > set[len(set)-1]) {
			l = append(l, append(slices.Clone(set), next))
		}
	}
	return l
}
