package flat

import (
	"iter"
	"slices"

	"cobble/api"
)

// tolerant are rules and a tolerance that have no error.
type tolerant struct {
	rules
	tolerance int
}

// tolerantOf returns the errors of rules and a tolerance.
func tolerantOf(r api.FlatRules, tolerance int) (tolerant, api.Errno) {
	x, e := rulesOf(r)
	if e := firstError(e, limit(0, api.MaxFlatTarget)(tolerance)); e != api.OK {
		return tolerant{}, e
	}
	return tolerant{x, tolerance}, api.OK
}

// kept yields the settings that keep the tolerance at all positions.
func (t tolerant) kept() iter.Seq[[]int] {
	return func(yield func([]int) bool) {
		for settings := range t.settings() {
			if t.maximum(settings) <= t.tolerance && !yield(settings) {
				return
			}
		}
	}
}

// FirstWithin returns the first settings that keep a tolerance.
func FirstWithin(r api.FlatRules, tolerance int) ([]int, api.Errno) {
	t, e := tolerantOf(r, tolerance)
	if e != api.OK {
		return nil, e
	}
	for settings := range t.kept() {
		return settings, api.OK
	}
	return nil, api.ErrNone
}

// CountWithin returns how many settings keep a tolerance.
func CountWithin(r api.FlatRules, tolerance int) (int, api.Errno) {
	t, e := tolerantOf(r, tolerance)
	if e != api.OK {
		return 0, e
	}
	n := 0
	for range t.kept() {
		n++
	}
	return n, api.OK
}

// positions are positions as bits: there are few of them, however many settings keep
// the tolerance there.
type positions uint16

func bitsOf(set []int) positions {
	var p positions
	for _, i := range set {
		p |= 1 << i
	}
	return p
}

// keptBy is the positions at which settings keep the tolerance.
func (t tolerant) keptBy(settings []int) positions {
	var set []int
	for i, n := range t.deviations(settings) {
		if max(n, -n) <= t.tolerance {
			set = append(set, i)
		}
	}
	return bitsOf(set)
}

// keptTogether are the positions that some settings keep together, each of them once.
func (t tolerant) keptTogether() []positions {
	var seen [1 << api.MaxFlatNodes]bool
	var l []positions
	for settings := range t.settings() {
		if p := t.keptBy(settings); !seen[p] {
			seen[p] = true
			l = append(l, p)
		}
	}
	return l
}

// ContradictingIn returns the minimum set of positions that contradict each other.
func ContradictingIn(r api.FlatRules, tolerance int) ([]int, api.Errno) {
	t, e := tolerantOf(r, tolerance)
	if e != api.OK {
		return nil, e
	}
	together := t.keptTogether()
	for count := range len(t.Target) + 1 {
		for set := range setsOf(count, 0, len(t.Target)) {
			wanted := bitsOf(set)
			if !slices.ContainsFunc(together, func(p positions) bool { return p&wanted == wanted }) {
				return set, api.OK
			}
		}
	}
	return nil, api.ErrNone
}

// setsOf yields the sets of so many numbers from least to n - 1, in lexicographic
// order. A set that is yielded is the receiver's own.
func setsOf(count, least, n int) iter.Seq[[]int] {
	return func(yield func([]int) bool) {
		if count == 0 {
			yield(nil)
			return
		}
		for first := least; first < n; first++ {
			for others := range setsOf(count-1, first+1, n) {
				if !yield(append([]int{first}, others...)) {
					return
				}
			}
		}
	}
}
