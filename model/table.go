package model

import (
	"slices"

	"cobble/api"
)

func checkTemperatures(numbers ...int) api.Errno {
	return limit(0, api.MaxModelX)(numbers...)
}

// CheckTable returns the first error of a table, and the index of its knot.
func CheckTable(l []api.ModelKnot) (int, api.Errno) {
	if e := checkCount(len(l), api.MaxModelKnots); e != api.OK {
		return 0, e
	}
	for i, k := range l {
		if e := firstError(checkTemperatures(k.X), limit(1, api.MaxModelValue)(k.Value)); e != api.OK {
			return i, e
		}
		if i > 0 && k.X <= l[i-1].X {
			return i, api.ErrOrder
		}
	}
	return 0, api.OK
}

// ValueAt returns the value of a table at a temperature.
func ValueAt(l []api.ModelKnot, x int) (int, api.Errno) {
	_, e := CheckTable(l)
	if e := firstError(e, checkTemperatures(x)); e != api.OK {
		return 0, e
	}
	return valueIn(l, x), api.OK
}

// valueIn is the value by a table that has no error.
func valueIn(l []api.ModelKnot, x int) int {
	after := 0
	for after < len(l) && l[after].X < x {
		after++
	}
	switch after {
	case 0:
		return l[0].Value
	case len(l):
		return l[after-1].Value
	}
	// The mean of both values by their distances has no part below 0, so that its
	// quotient is rounded down on a line that falls, too.
	p, q := l[after-1], l[after]
	return (p.Value*(q.X-x) + q.Value*(x-p.X)) / (q.X - p.X)
}

// RangeOver returns the minimum and the maximum value over a range of temperatures.
func RangeOver(l []api.ModelKnot, x api.Range) (api.Range, api.Errno) {
	_, e := CheckTable(l)
	if e := firstError(e, checkTemperatures(x.Lo, x.Hi), checkEnds(x)); e != api.OK {
		return api.Range{}, e
	}
	values := []int{valueIn(l, x.Lo), valueIn(l, x.Hi)}
	for _, k := range l {
		if x.Lo < k.X && k.X < x.Hi {
			values = append(values, k.Value)
		}
	}
	return api.Range{Lo: slices.Min(values), Hi: slices.Max(values)}, api.OK
}
