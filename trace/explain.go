package trace

import (
	"iter"
	"slices"

	"cobble/api"
)

// setsOf yields the sets of so many numbers from least to n - 1, in lexicographic
// order. A set that is yielded is the receiver's own.
func setsOf(count, least, n int) iter.Seq[[]int] {
	return func(yield func([]int) bool) {
		if count == 0 {
			yield(nil)
			return
		}
		for first := least; first < n; first++ {
			for others := range setsOf(count-1, first+1, n) {
				if !yield(append([]int{first}, others...)) {
					return
				}
			}
		}
	}
}

// bySize yields the sets of the numbers from 0 to n - 1 by their size.
func bySize(n int) iter.Seq[[]int] {
	return func(yield func([]int) bool) {
		for count := range n + 1 {
			for set := range setsOf(count, 0, n) {
				if !yield(set) {
					return
				}
			}
		}
	}
}

// finding is a reading, with which of all causes predict a defect for it.
type finding struct {
	api.TraceReading
	predictors []bool
}

// findings are those of readings.
func (x causes) findings(readings []api.TraceReading) []finding {
	var l []finding
	for _, r := range readings {
		l = append(l, finding{r, x.predictors(r)})
	}
	return l
}

// isPredicted tells whether a set of causes predicts a defect.
func (f finding) isPredicted(set []int) bool {
	return slices.ContainsFunc(set, func(i int) bool { return f.predictors[i] })
}

// agrees tells whether a set of causes agrees with all findings.
func agrees(set []int, findings ...finding) bool {
	return !slices.ContainsFunc(findings, func(f finding) bool { return f.isPredicted(set) != f.Present })
}

// explanations are the sets with the minimum size that agree with all findings.
func (x causes) explanations(findings []finding) [][]int {
	var l [][]int
	for set := range bySize(len(x.all)) {
		if len(l) > 0 && len(set) > len(l[0]) {
			break
		}
		if agrees(set, findings...) {
			l = append(l, set)
		}
	}
	return l
}

// found returns the findings of readings, or the error of a course, of causes or of
// readings.
func found(c api.TraceCourse, l []api.TraceCause, r []api.TraceReading) (causes, []finding, api.Errno) {
	x, _, e := causesOf(c, l)
	if e != api.OK {
		return causes{}, nil, e
	}
	if e := x.checkReadings(r); e != api.OK {
		return causes{}, nil, e
	}
	return x, x.findings(r), api.OK
}

// Explanations returns the explanations of readings.
func Explanations(c api.TraceCourse, l []api.TraceCause, r []api.TraceReading) ([][]int, api.Errno) {
	x, findings, e := found(c, l, r)
	if e != api.OK {
		return nil, e
	}
	sets := x.explanations(findings)
	return sets, orElse(len(sets) > 0, api.ErrNone)
}

// contradicted tells whether no set of causes agrees with findings.
func (x causes) contradicted(findings []finding) bool {
	for set := range bySize(len(x.all)) {
		if agrees(set, findings...) {
			return false
		}
	}
	return true
}

// Contradicting returns the minimum set of readings with which no set of causes agrees.
func Contradicting(c api.TraceCourse, l []api.TraceCause, r []api.TraceReading) ([]int, api.Errno) {
	x, findings, e := found(c, l, r)
	if e != api.OK {
		return nil, e
	}
	for set := range bySize(len(findings)) {
		var some []finding
		for _, i := range set {
			some = append(some, findings[i])
		}
		if x.contradicted(some) {
			return set, api.OK
		}
	}
	return nil, api.ErrNone
}

// rivals is the greater one of the numbers of explanations that predict a defect for a
// candidate, and of those that do not.
func rivals(sets [][]int, candidate finding) int {
	predicting := 0
	for _, set := range sets {
		if candidate.isPredicted(set) {
			predicting++
		}
	}
	return max(predicting, len(sets)-predicting)
}

// NextReading returns the index of the candidate that leaves the fewest explanations in
// the worse case, and their number.
func NextReading(c api.TraceCourse, l []api.TraceCause, x api.TraceSearch) (int, int, api.Errno) {
	all, findings, e := found(c, l, x.Readings)
	if e := firstError(e, orElse(len(x.Candidates) > 0, api.ErrShape)); e != api.OK {
		return 0, 0, e
	}
	if e := all.checkReadings(x.Candidates); e != api.OK {
		return 0, 0, e
	}
	sets := all.explanations(findings)
	if len(sets) == 0 {
		return 0, 0, api.ErrNone
	}
	best, fewest := 0, len(sets)+1
	for i, candidate := range all.findings(x.Candidates) {
		if n := rivals(sets, candidate); n < fewest {
			best, fewest = i, n
		}
	}
	return best, fewest, api.OK
}
