package trace

import "cobble/api"

// MapOf returns the map from the strip after some steps to that after others.
func MapOf(c api.TraceCourse, from, to int) (api.TraceMap, api.Errno) {
	x, e := validCourse(c)
	e = firstError(e, x.checkSteps(from, to), orElse(from <= to, api.ErrOrder))
	if e != api.OK {
		return api.TraceMap{}, e
	}
	return x.strips[from].composed(x.strips[to].inverse()).result()
}

// checkForm returns the error of fractions that must be in lowest terms.
func checkForm(fractions ...api.Frac) api.Errno {
	for _, f := range fractions {
		if f.Den <= 0 || !exactOf(f).isReduced() {
			return api.ErrForm
		}
	}
	return api.OK
}

// CheckMap returns the first error of a map, and the index of its knot.
func CheckMap(m api.TraceMap) (int, api.Errno) {
	e := firstError(
		orElse(len(m.Knots) >= 2, api.ErrShape),
		orElse(len(m.Knots) <= api.MaxTraceKnots, api.ErrLarge))
	if e != api.OK {
		return 0, e
	}
	for i, k := range m.Knots {
		e := checkKnot(k)
		if e == api.OK && i > 0 {
			e = checkOrder(m.Knots[i-1], k)
		}
		if e != api.OK {
			return i, e
		}
	}
	return 0, api.OK
}

func checkKnot(k api.TraceKnot) api.Errno {
	return firstError(
		checkForm(k.In, k.Out),
		size(api.MaxPart)(k.In.Num, k.In.Den, k.Out.Num, k.Out.Den))
}

// checkOrder returns the error of a knot that follows another one.
func checkOrder(k, next api.TraceKnot) api.Errno {
	isAfter := exactOf(k.In).less(exactOf(next.In)) && exactOf(k.Out).less(exactOf(next.Out))
	return orElse(isAfter, api.ErrOrder)
}

// validMap returns the error of a map.
func validMap(m api.TraceMap) (line, api.Errno) {
	if _, e := CheckMap(m); e != api.OK {
		return nil, e
	}
	return lineOf(m), api.OK
}

// ValueAt returns the value of a map at a position.
func ValueAt(m api.TraceMap, position api.Frac) (api.Frac, api.Errno) {
	l, e := validMap(m)
	if e := firstError(e, checkForm(position)); e != api.OK {
		return api.Frac{}, e
	}
	value, is := l.valueAt(exactOf(position))
	if !is {
		return api.Frac{}, api.ErrRange
	}
	return value.frac()
}

// Inverse returns the inverse of a map.
func Inverse(m api.TraceMap) (api.TraceMap, api.Errno) {
	l, e := validMap(m)
	if e != api.OK {
		return api.TraceMap{}, e
	}
	return l.inverse().result()
}

// Composed returns the composition of two maps.
func Composed(a, b api.TraceMap) (api.TraceMap, api.Errno) {
	first, wrongFirst := validMap(a)
	next, wrongNext := validMap(b)
	if e := firstError(wrongFirst, wrongNext); e != api.OK {
		return api.TraceMap{}, e
	}
	both := first.composed(next)
	switch {
	case len(both) < 2:
		return api.TraceMap{}, api.ErrNone
	case len(both) > api.MaxTraceKnots:
		return api.TraceMap{}, api.ErrLarge
	}
	return both.result()
}
