package cool

import (
	"iter"
	"slices"

	"cobble/api"
)

// strip is a strip that has no error, and the table that it passes.
type strip struct {
	table
	api.CoolStrip
}

// stripOf returns the errors of a table and a strip.
func stripOf(t api.CoolTable, x api.CoolStrip) (strip, api.Errno) {
	checked, e := tableOf(t)
	_, wrong := CheckStrip(x)
	if e := firstError(e, wrong); e != api.OK {
		return strip{}, e
	}
	return strip{checked, x}, api.OK
}

// CheckStrip returns the first error of a strip, and the index of its segment.
func CheckStrip(x api.CoolStrip) (int, api.Errno) {
	n := len(x.Entries)
	if e := firstError(checkSame(n, len(x.Targets)), checkCount(n, 1, api.MaxCoolSegments)); e != api.OK {
		return 0, e
	}
	for i, entry := range x.Entries {
		if e := checkDegrees(entry, x.Targets[i]); e != api.OK {
			return i, e
		}
	}
	return 0, api.OK
}

// checkStripSets returns the error of sets of the strip.
func (x strip) checkStripSets(sets []int) api.Errno {
	return firstError(checkSame(len(x.Entries), len(sets)), x.checkOpen(sets))
}

// exitOf is the exit range of a segment.
func (x strip) exitOf(segment, set int) api.Range {
	return x.exit(set, x.Entries[segment])
}

// answer is that for a segment.
func (x strip) answer(segment, set int) int {
	exit, target := x.exitOf(segment, set), x.Targets[segment]
	switch {
	case target.Lo <= exit.Lo && exit.Hi <= target.Hi:
		return api.AnswerYes
	case !meet(exit, target):
		return api.AnswerNo
	}
	return api.AnswerMaybe
}

// reaching yields the sets that reach a segment, ascending.
func (x strip) reaching(segment int) iter.Seq[int] {
	return func(yield func(int) bool) {
		for set := range x.setsWithin(x.available(segment)) {
			if x.answer(segment, set) == api.AnswerYes && !yield(set) {
				return
			}
		}
	}
}

// isReached tells whether a set reaches a segment.
func (x strip) isReached(segment int) bool {
	for range x.reaching(segment) {
		return true
	}
	return false
}

// permitted are the sets that are permitted for a segment, ascending: at least the
// empty one, if no set reaches it.
func (x strip) permitted(segment int) []int {
	if x.isReached(segment) {
		return slices.Collect(x.reaching(segment))
	}
	return slices.Collect(x.setsWithin(x.available(segment)))
}

// ExitsOf returns the exit range of each segment.
func ExitsOf(t api.CoolTable, x api.CoolStrip, sets []int) ([]api.Range, api.Errno) {
	s, e := stripOf(t, x)
	if e := firstError(e, s.checkStripSets(sets)); e != api.OK {
		return nil, e
	}
	var exits []api.Range
	for i, set := range sets {
		exits = append(exits, s.exitOf(i, set))
	}
	return exits, api.OK
}

// AnswersOf returns the answer for each segment.
func AnswersOf(t api.CoolTable, x api.CoolStrip, sets []int) ([]int, api.Errno) {
	s, e := stripOf(t, x)
	if e := firstError(e, s.checkStripSets(sets)); e != api.OK {
		return nil, e
	}
	var answers []int
	for i, set := range sets {
		answers = append(answers, s.answer(i, set))
	}
	return answers, api.OK
}

// ReachingAt returns all sets that reach a segment.
func ReachingAt(t api.CoolTable, x api.CoolStrip, segment int) ([]int, api.Errno) {
	s, e := stripOf(t, x)
	if e != api.OK {
		return nil, e
	}
	if segment < 0 || segment >= len(s.Entries) {
		return nil, api.ErrMissing
	}
	return slices.Collect(s.reaching(segment)), api.OK
}

// UnreachedIn returns the segments that no set reaches.
func UnreachedIn(t api.CoolTable, x api.CoolStrip) ([]int, api.Errno) {
	s, e := stripOf(t, x)
	if e != api.OK {
		return nil, e
	}
	var l []int
	for i := range s.Entries {
		if !s.isReached(i) {
			l = append(l, i)
		}
	}
	return l, api.OK
}
