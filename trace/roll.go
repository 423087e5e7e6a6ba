package trace

import "cobble/api"

// marks are marks on the coil of a course that have no error, with their points.
type marks struct {
	api.TraceMarks
	course course
	points []exact
}

// marksOf returns the error of a course, or of marks.
func marksOf(c api.TraceCourse, x api.TraceMarks) (marks, api.Errno) {
	valid, e := validCourse(c)
	if e != api.OK {
		return marks{}, e
	}
	if e := valid.checkMarks(x); e != api.OK {
		return marks{}, e
	}
	m := marks{TraceMarks: x, course: valid}
	for _, position := range x.Marks {
		m.points = append(m.points, valid.pointAt(len(c.Steps), whole(position)))
	}
	return m, api.OK
}

func (c course) checkMarks(x api.TraceMarks) api.Errno {
	if len(x.Marks) > api.MaxTraceMarks {
		return api.ErrLarge
	}
	before := -1
	_, e := firstWrong(x.Marks, func(position int) api.Errno {
		e := firstError(
			orElse(c.coil().has(position), api.ErrMissing),
			orElse(before < position, api.ErrOrder))
		before = position
		return e
	})
	return firstError(e, limit(0, api.MaxTraceTolerance)(x.Tolerance))
}

// checkRoll returns the error of a roll.
func (m marks) checkRoll(r api.TraceRoll) api.Errno {
	return firstError(
		checkName(r.Name),
		m.course.checkSteps(r.Step),
		limit(1, api.MaxTracePosition)(r.Circumference),
		orElse(6*m.Tolerance < r.Circumference, api.ErrBreak))
}

// contradict tells whether two marks at a distance contradict a roll: what the distance
// is more than a multiple of the circumference, and what is missing to the next one, is
// too much.
func (m marks) contradict(r api.TraceRoll, distance exact) bool {
	most := whole(2 * m.Tolerance)
	left := distance.left(r.Circumference)
	return most.less(left) && most.less(whole(r.Circumference).minus(left))
}

// firstPair is the first two marks that contradict a roll, and whether there are any.
func (m marks) firstPair(r api.TraceRoll) ([2]int, bool) {
	var places []exact
	for _, point := range m.points {
		place, _ := m.course.placeOf(point, r.Step)
		places = append(places, place)
	}
	for i := range places {
		for j := i + 1; j < len(places); j++ {
			if m.contradict(r, places[j].minus(places[i])) {
				return [2]int{i, j}, true
			}
		}
	}
	return [2]int{}, false
}

// RollsOf returns the names of the rolls that explain marks.
func RollsOf(c api.TraceCourse, x api.TraceMarks, rolls []api.TraceRoll) ([]string, api.Errno) {
	m, e := marksOf(c, x)
	if e := firstError(e, orElse(len(rolls) <= api.MaxTraceRolls, api.ErrFull)); e != api.OK {
		return nil, e
	}
	known := map[string]bool{}
	_, e = firstWrong(rolls, func(r api.TraceRoll) api.Errno {
		e := firstError(m.checkRoll(r), orElse(!known[r.Name], api.ErrExists))
		known[r.Name] = true
		return e
	})
	if e != api.OK {
		return nil, e
	}
	var names []string
	for _, r := range rolls {
		if _, is := m.firstPair(r); !is {
			names = append(names, r.Name)
		}
	}
	return names, api.OK
}

// RollPair returns the first two marks that contradict a roll.
func RollPair(c api.TraceCourse, x api.TraceMarks, roll api.TraceRoll) ([2]int, api.Errno) {
	m, e := marksOf(c, x)
	if e := firstError(e, m.checkRoll(roll)); e != api.OK {
		return [2]int{}, e
	}
	pair, is := m.firstPair(roll)
	return pair, orElse(is, api.ErrNone)
}
