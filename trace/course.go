package trace

import "cobble/api"

// course is a course that has no error, with the strips after each number of steps.
type course struct {
	api.TraceCourse
	strips []strip
}

// courseOf returns the first error of a course, and the index of its step.
func courseOf(c api.TraceCourse) (course, int, api.Errno) {
	if e := checkSlab(c); e != api.OK {
		return course{}, 0, e
	}
	x := course{c, []strip{slabOf(c)}}
	for i, step := range c.Steps {
		next, e := x.strips[i].after(step)
		if e != api.OK {
			return course{}, i, e
		}
		x.strips = append(x.strips, next)
	}
	return x, 0, api.OK
}

// validCourse returns the error of a course.
func validCourse(c api.TraceCourse) (course, api.Errno) {
	x, _, e := courseOf(c)
	return x, e
}

// CheckCourse returns the first error of a course, and the index of its step.
func CheckCourse(c api.TraceCourse) (int, api.Errno) {
	_, i, e := courseOf(c)
	return i, e
}

// checkSlab returns the error of all of a course but its steps.
func checkSlab(c api.TraceCourse) api.Errno {
	n := len(c.Lengths)
	e := firstError(
		checkName(c.Slab),
		orElse(n > 0 && len(c.Areas) == n, api.ErrShape),
		orElse(n <= api.MaxTraceSections, api.ErrLarge))
	if e != api.OK {
		return e
	}
	for i := range n {
		e := firstError(limit(1, api.MaxTraceLength)(c.Lengths[i]), limit(1, api.MaxTraceArea)(c.Areas[i]))
		if e != api.OK {
			return e
		}
	}
	return orElse(len(c.Steps) <= api.MaxTraceSteps, api.ErrLarge)
}

// checkPass returns the error of a pass of the strip.
func (s strip) checkPass(x api.TraceStep) api.Errno {
	return firstError(
		orElse(x.From == 0 && x.To == 0, api.ErrForm),
		orElse(len(x.Areas) == len(s.areas), api.ErrShape),
		limit(1, api.MaxTraceArea)(x.Areas...))
}

// checkCut returns the error of a cut of the strip.
func (s strip) checkCut(x api.TraceStep) api.Errno {
	return firstError(
		orElse(len(x.Areas) == 0, api.ErrForm),
		limit(0, api.MaxTracePosition)(x.From, x.To),
		orElse(x.From < x.To, api.ErrOrder),
		orElse(s.has(x.To), api.ErrMissing))
}

// after is the strip after one more step, or the error of this step.
func (s strip) after(x api.TraceStep) (strip, api.Errno) {
	var next strip
	switch x.Kind {
	case api.TracePass:
		if e := s.checkPass(x); e != api.OK {
			return strip{}, e
		}
		next = s.passed(x.Areas)
	case api.TraceCut:
		if e := s.checkCut(x); e != api.OK {
			return strip{}, e
		}
		next = s.cut(x.From, x.To)
	default:
		return strip{}, api.ErrKind
	}
	_, e := next.result()
	return next, e
}

// checkSteps returns the error of numbers of steps.
func (c course) checkSteps(numbers ...int) api.Errno {
	return limit(0, len(c.Steps))(numbers...)
}

// stripAfter returns the strip after a number of steps, or the error of the course, or
// of the number.
func stripAfter(c api.TraceCourse, steps int) (strip, api.Errno) {
	x, e := validCourse(c)
	if e := firstError(e, x.checkSteps(steps)); e != api.OK {
		return strip{}, e
	}
	return x.strips[steps], api.OK
}

// StripAfter returns the strip after a number of steps.
func StripAfter(c api.TraceCourse, steps int) (api.TraceStrip, api.Errno) {
	s, e := stripAfter(c, steps)
	if e != api.OK {
		return api.TraceStrip{}, e
	}
	return s.result()
}

// LengthAfter returns the length of the strip after a number of steps.
func LengthAfter(c api.TraceCourse, steps int) (api.Frac, api.Errno) {
	s, e := stripAfter(c, steps)
	if e != api.OK {
		return api.Frac{}, e
	}
	return s.length().frac()
}

// VolumeAfter returns the volume of the strip after a number of steps.
func VolumeAfter(c api.TraceCourse, steps int) (api.Frac, api.Errno) {
	s, e := stripAfter(c, steps)
	if e != api.OK {
		return api.Frac{}, e
	}
	return s.volume().frac()
}
