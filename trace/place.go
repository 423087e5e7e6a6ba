package trace

import "cobble/api"

// pointAt is the point at a position on the strip after a number of steps: the volume of
// the slab before it.
func (c course) pointAt(steps int, position exact) exact {
	point, _ := c.strips[steps].valueAt(position)
	return point
}

// placeOf is the position of a point on the strip after a number of steps, and whether
// it is there.
func (c course) placeOf(point exact, steps int) (exact, bool) {
	return c.strips[steps].inverse().valueAt(point)
}

// read is the point that was read.
func (c course) read(r api.TraceReading) exact {
	return c.pointAt(r.Step, whole(r.At))
}

// checkReading returns the error of a reading.
func (c course) checkReading(r api.TraceReading) api.Errno {
	if e := c.checkSteps(r.Step); e != api.OK {
		return e
	}
	return orElse(c.strips[r.Step].has(r.At), api.ErrMissing)
}

// checkReadings returns the error of readings.
func (c course) checkReadings(readings []api.TraceReading) api.Errno {
	if len(readings) > api.MaxTraceReadings {
		return api.ErrLarge
	}
	_, e := firstWrong(readings, c.checkReading)
	return e
}

// PlaceOf returns the position of the point that was read, on the strip after a number
// of steps.
func PlaceOf(c api.TraceCourse, r api.TraceReading, steps int) (api.Frac, api.Errno) {
	x, e := validCourse(c)
	if e != api.OK {
		return api.Frac{}, e
	}
	if e := firstError(x.checkReading(r), x.checkSteps(steps)); e != api.OK {
		return api.Frac{}, e
	}
	place, is := x.placeOf(x.read(r), steps)
	if !is {
		return api.Frac{}, api.ErrNone
	}
	return place.frac()
}

// coil is the strip after all steps.
func (c course) coil() strip {
	return c.strips[len(c.Steps)]
}

// cuts are the positions on the coil at which it is divided into pieces, with both ends
// of the coil, or the error of their number.
func (c course) cuts(size int) ([]exact, api.Errno) {
	cuts := []exact{whole(0)}
	for length := c.coil().length(); cuts[len(cuts)-1].less(length); {
		if len(cuts) > api.MaxTracePieces {
			return nil, api.ErrFull
		}
		cuts = append(cuts, least(whole(len(cuts)*size), length))
	}
	return cuts, api.OK
}

// slabPlace is where a point of the coil lies on the slab, or the error of its parts.
func (c course) slabPlace(position exact) (api.Frac, api.Errno) {
	place, _ := c.placeOf(c.pointAt(len(c.Steps), position), 0)
	return place.frac()
}

// PiecesOf returns the parts of the slab of which the pieces of the coil are made.
func PiecesOf(c api.TraceCourse, size int) ([]api.Span, api.Errno) {
	x, e := validCourse(c)
	if e := firstError(e, limit(1, api.MaxTracePosition)(size)); e != api.OK {
		return nil, e
	}
	cuts, e := x.cuts(size)
	if e != api.OK {
		return nil, e
	}
	lo, e := x.slabPlace(cuts[0])
	var pieces []api.Span
	for _, cut := range cuts[1:] {
		hi, wrong := x.slabPlace(cut)
		if e = firstError(e, wrong); e != api.OK {
			return nil, e
		}
		pieces = append(pieces, api.Span{Lo: lo, Hi: hi})
		lo = hi
	}
	return pieces, api.OK
}
