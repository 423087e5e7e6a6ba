package trace

import (
	"slices"

	"cobble/api"
)

// causes are causes that have no error, in their course.
type causes struct {
	course
	all []api.TraceCause
}

// causesOf returns the first error of causes, and the index of its cause.
func causesOf(c api.TraceCourse, l []api.TraceCause) (causes, int, api.Errno) {
	x, e := validCourse(c)
	if e := firstError(e, orElse(len(l) <= api.MaxTraceCauses, api.ErrLarge)); e != api.OK {
		return causes{}, 0, e
	}
	known := map[string]bool{}
	i, e := firstWrong(l, func(a api.TraceCause) api.Errno {
		e := firstError(
			checkName(a.Name),
			orElse(!known[a.Name], api.ErrExists),
			x.checkSteps(a.Step),
			limit(0, api.MaxTracePosition)(a.From, a.To, a.Period),
			orElse(a.From <= a.To, api.ErrOrder),
			orElse(a.Period == 0 || a.Period > a.To-a.From, api.ErrClash))
		known[a.Name] = true
		return e
	})
	return causes{x, l}, i, e
}

// CheckCauses returns the first error of causes, and the index of its cause.
func CheckCauses(c api.TraceCourse, l []api.TraceCause) (int, api.Errno) {
	_, i, e := causesOf(c, l)
	return i, e
}

// predicts tells whether a cause alone predicts a defect for a reading.
func (x causes) predicts(a api.TraceCause, r api.TraceReading) bool {
	if a.Step > r.Step {
		return false
	}
	place, _ := x.placeOf(x.read(r), a.Step)
	if place.less(whole(a.From)) {
		return false
	}
	behind := place.minus(whole(a.From))
	if a.Period > 0 {
		behind = behind.left(a.Period)
	}
	return !whole(a.To - a.From).less(behind)
}

// predictors tell of each cause whether it predicts a defect for a reading.
func (x causes) predictors(r api.TraceReading) []bool {
	var l []bool
	for _, a := range x.all {
		l = append(l, x.predicts(a, r))
	}
	return l
}

// Predicts returns whether all causes together predict a defect for a reading.
func Predicts(c api.TraceCourse, l []api.TraceCause, r api.TraceReading) (bool, api.Errno) {
	x, _, e := causesOf(c, l)
	if e != api.OK {
		return false, e
	}
	if e := x.checkReading(r); e != api.OK {
		return false, e
	}
	return slices.Contains(x.predictors(r), true), api.OK
}

// Contradiction returns the index of the first reading with which the set of all causes
// does not agree.
func Contradiction(c api.TraceCourse, l []api.TraceCause, r []api.TraceReading) (int, api.Errno) {
	x, _, e := causesOf(c, l)
	if e != api.OK {
		return 0, e
	}
	if e := x.checkReadings(r); e != api.OK {
		return 0, e
	}
	for i, reading := range r {
		if slices.Contains(x.predictors(reading), true) != reading.Present {
			return i, api.OK
		}
	}
	return 0, api.ErrNone
}
