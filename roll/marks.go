package roll

import (
	"iter"
	"slices"

	"cobble/api"
)

// marks are marks that have no error, and a circumference.
type marks struct {
	api.RollMarks
	round int
}

// marksFor returns the errors of marks and a circumference.
func marksFor(m api.RollMarks, circumference int) (marks, api.Errno) {
	_, e := CheckMarks(m)
	if e := firstError(e, checkRound(m, circumference)); e != api.OK {
		return marks{}, e
	}
	return marks{m, circumference}, api.OK
}

// checkRound returns the error of a circumference.
func checkRound(m api.RollMarks, circumference int) api.Errno {
	if e := limit(1, api.MaxRollRound)(circumference); e != api.OK {
		return e
	}
	if circumference <= 4*m.Tolerance {
		return api.ErrBreak
	}
	return api.OK
}

// CheckMarks returns the first error of marks, and the index of its mark.
func CheckMarks(m api.RollMarks) (int, api.Errno) {
	switch {
	case len(m.Positions) < 2:
		return 0, api.ErrShape
	case len(m.Positions) > api.MaxRollMarks:
		return 0, api.ErrLarge
	}
	if e := limit(0, api.MaxRollRound)(m.Tolerance); e != api.OK {
		return 0, e
	}
	for i, at := range m.Positions {
		if e := limit(0, api.MaxRollMark)(at); e != api.OK {
			return i, e
		}
		if i > 0 && at <= m.Positions[i-1] {
			return i, api.ErrOrder
		}
	}
	return 0, api.OK
}

// beside is by how much a position lies behind, or before, the nearest place a
// whole multiple of the circumference away from another one.
func (m marks) beside(at, position int) int {
	n := modulo(position-at, m.round)
	if 2*n > m.round {
		return n - m.round
	}
	return n
}

// phasesOf are the phases that explain some of the marks, or ErrNone. Around the
// first one, each mark has one range of phases that the first one may share: the
// circumference is so great that its next one is out of reach.
func (m marks) phasesOf(positions ...int) (api.Range, api.Errno) {
	first := positions[0]
	lo, hi := first-m.Tolerance, first+m.Tolerance
	for _, position := range positions {
		near := first + m.beside(first, position)
		lo, hi = max(lo, near-m.Tolerance), min(hi, near+m.Tolerance)
	}
	if lo > hi {
		return api.Range{}, api.ErrNone
	}
	start := modulo(lo, m.round)
	return api.Range{Lo: start, Hi: start + hi - lo}, api.OK
}

// missing yields the positions at which marks of a phase are missing.
func (m marks) missing(phase int) iter.Seq[int] {
	return func(yield func(int) bool) {
		first, last := m.Positions[0], m.Positions[len(m.Positions)-1]
		for at := first + modulo(phase-first, m.round); at <= last; at += m.round {
			if !m.hasNear(at) && !yield(at) {
				return
			}
		}
	}
}

// hasNear tells whether a mark lies so near that it may be the one expected there.
func (m marks) hasNear(at int) bool {
	reach := 2 * m.Tolerance
	i, _ := slices.BinarySearch(m.Positions, at-reach)
	return i < len(m.Positions) && m.Positions[i] <= at+reach
}

// isCause tells whether a phase explains all marks, and none is missing.
func (m marks) isCause() bool {
	phases, e := m.phasesOf(m.Positions...)
	if e != api.OK {
		return false
	}
	for range m.missing(phases.Lo) {
		return false
	}
	return true
}

// PhaseOf returns the phases that explain marks.
func PhaseOf(m api.RollMarks, circumference int) (api.Range, api.Errno) {
	x, e := marksFor(m, circumference)
	if e != api.OK {
		return api.Range{}, e
	}
	return x.phasesOf(x.Positions...)
}

// ExpectedOf returns the positions at which marks are missing.
func ExpectedOf(m api.RollMarks, circumference int) ([]int, api.Errno) {
	phases, e := PhaseOf(m, circumference)
	if e != api.OK {
		return nil, e
	}
	return slices.Collect(marks{m, circumference}.missing(phases.Lo)), api.OK
}

// CausesOf returns the indexes of the circumferences that are causes of marks.
func CausesOf(m api.RollMarks, circumferences []int) ([]int, api.Errno) {
	if _, e := CheckMarks(m); e != api.OK {
		return nil, e
	}
	if len(circumferences) > api.MaxRollCauses {
		return nil, api.ErrLarge
	}
	var l []int
	for i, circumference := range circumferences {
		x, e := marksFor(m, circumference)
		if e != api.OK {
			return nil, e
		}
		if x.isCause() {
			l = append(l, i)
		}
	}
	return l, api.OK
}

// maxContradicting is how many marks a minimum set that contradicts a circumference
// has at most: if each two and each three have a phase in common, so have all, since
// what they share with the first one are ranges of its own range, not of a circle.
const maxContradicting = 3

// ContradictingIn returns the minimum set of marks that contradict a circumference.
func ContradictingIn(m api.RollMarks, circumference int) ([]int, api.Errno) {
	x, e := marksFor(m, circumference)
	if e != api.OK {
		return nil, e
	}
	for count := 2; count <= maxContradicting; count++ {
		for set := range setsOf(count, 0, len(x.Positions)) {
			if x.contradicts(set) {
				return set, api.OK
			}
		}
	}
	return nil, api.ErrNone
}

// contradicts tells whether no phase explains the marks of a set alone.
func (m marks) contradicts(set []int) bool {
	var some []int
	for _, i := range set {
		some = append(some, m.Positions[i])
	}
	_, e := m.phasesOf(some...)
	return e != api.OK
}

// setsOf yields the sets of so many numbers from least to n - 1, in lexicographic
// order. A set that is yielded is the receiver's own.
func setsOf(count, least, n int) iter.Seq[[]int] {
	return func(yield func([]int) bool) {
		if count == 0 {
			yield(nil)
			return
		}
		for first := least; first < n; first++ {
			for others := range setsOf(count-1, first+1, n) {
				if !yield(append([]int{first}, others...)) {
					return
				}
			}
		}
	}
}
