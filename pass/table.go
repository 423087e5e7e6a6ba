package pass

import (
	"iter"
	"slices"

	"cobble/api"
)

// maxPermitted is how many thicknesses a grid may permit.
const maxPermitted = 40

// table is a mill, and the thicknesses that a grid permits, descending. Settings
// are given by the indexes of their thicknesses in it.
type table struct {
	mill
	permitted []int
}

// tableOf returns the errors of the rules and the grid.
func tableOf(r api.PassRules, grid int) (table, api.Errno) {
	_, e := CheckRules(r)
	if e := firstError(e, checkWithin(1, api.MaxPassThickness, grid)); e != api.OK {
		return table{}, e
	}
	t := table{mill{r}, permittedBy(r, grid)}
	if len(t.permitted) > maxPermitted {
		return table{}, api.ErrLarge
	}
	return t, api.OK
}

func permittedBy(r api.PassRules, grid int) []int {
	var l []int
	for h := r.Start; h >= r.Finish; h-- {
		if h%grid == 0 || h == r.Start || h == r.Finish {
			l = append(l, h)
		}
	}
	return l
}

// finish is the index of Finish.
func (t table) finish() int {
	return len(t.permitted) - 1
}

func (t table) draughtAt(stand, before, after int) draught {
	return draught{stand, t.permitted[before], t.permitted[after]}
}

// settings yields the settings of a stand by some limits alone.
func (t table) settings(stand int, limits ...int) iter.Seq2[int, int] {
	return func(yield func(int, int) bool) {
		for before := range t.permitted {
			for after := before; after <= t.finish(); after++ {
				if t.passes(t.draughtAt(stand, before, after), limits...) && !yield(before, after) {
					return
				}
			}
		}
	}
}

// reachedAfter tells which thicknesses settings of a stand lead to from those that
// are reached before it, by some limits alone.
func (t table) reachedAfter(stand int, reached []bool, limits ...int) []bool {
	l := make([]bool, len(t.permitted))
	for before, after := range t.settings(stand, limits...) {
		if reached[before] && (stand < len(t.Stands)-1 || after == t.finish()) {
			l[after] = true
		}
	}
	return l
}

// BlockedAt returns the first stand that nothing passes, and the limits that
// exclude all of its settings.
func BlockedAt(r api.PassRules, grid int) (api.PassBlock, api.Errno) {
	t, e := tableOf(r, grid)
	if e != api.OK {
		return api.PassBlock{}, e
	}
	reached := make([]bool, len(t.permitted))
	reached[0] = true
	for stand := range t.Stands {
		next := t.reachedAfter(stand, reached, allLimits()...)
		if !slices.Contains(next, true) {
			return api.PassBlock{Stand: stand, Limits: t.excluding(stand, reached)}, api.OK
		}
		reached = next
	}
	return api.PassBlock{}, api.ErrNone
}

// excluding is the minimum set of limits by which nothing is reached after a stand.
func (t table) excluding(stand int, reached []bool) []int {
	for limits := range limitSets() {
		if !slices.Contains(t.reachedAfter(stand, reached, limits...), true) {
			return limits
		}
	}
	return nil
}

// limitSets yields all sets of limits: the smaller ones first, and those of one
// size in lexicographic order. A set that is yielded is the receiver's own.
func limitSets() iter.Seq[[]int] {
	return func(yield func([]int) bool) {
		// Sets wait in the order of their sizes, since each one is put behind all
		// others when it is made from one that is smaller by one.
		waiting := [][]int{nil}
		for len(waiting) > 0 {
			set := waiting[0]
			waiting = waiting[1:]
			for _, limit := range allLimits() {
				if len(set) == 0 || limit > set[len(set)-1] {
					waiting = append(waiting, append(slices.Clone(set), limit))
				}
			}
			if !yield(set) {
				return
			}
		}
	}
}
