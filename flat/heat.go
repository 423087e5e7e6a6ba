package flat

import (
	"slices"

	"cobble/api"
)

// checkHeat returns the first error of a step of heat.
func checkHeat(h api.FlatHeat) api.Errno {
	e := firstError(size(api.MaxFlatHeight)(h.Around), limit(0, api.FlatPart)(h.Cooling, h.Between))
	if e == api.OK && h.Cooling+2*h.Between > api.FlatPart {
		return api.ErrBreak
	}
	return e
}

// HeatedBy returns the temperatures along a roll after steps.
func HeatedBy(t []int, h api.FlatHeat, steps int) ([]int, api.Errno) {
	e := firstError(
		checkCount(len(t), 2, api.MaxFlatNodes),
		size(api.MaxFlatHeight)(t...),
		checkHeat(h),
		limit(0, api.MaxFlatSteps)(steps))
	if e != api.OK {
		return nil, e
	}
	l := slices.Clone(t)
	for range steps {
		l = heated(l, h)
	}
	return l, api.OK
}

// heated is the temperatures after one step.
func heated(t []int, h api.FlatHeat) []int {
	var l []int
	for i, n := range t {
		gain := (h.Around - n) * h.Cooling
		// The temperature itself is beside its neighbours, but it differs by 0.
		for _, u := range t[max(i-1, 0):min(i+2, len(t))] {
			gain += (u - n) * h.Between
		}
		l = append(l, n+parts(gain))
	}
	return l
}

// parts is a number of thousandths as a whole number, rounded down, where Go's
// division rounds towards 0.
func parts(n int) int {
	if n%api.FlatPart < 0 {
		return n/api.FlatPart - 1
	}
	return n / api.FlatPart
}
