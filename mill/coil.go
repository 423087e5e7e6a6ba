package mill

import (
	"slices"

	"cobble/api"
	"cobble/model"
	"cobble/trace"
)

// The words for what was found at a reading.
const (
	yes = "yes"
	no  = "no"
)

func (l *line) coilNamed(name string) *api.MillCoil {
	return named(l.Coils, name, nameOfCoil)
}

// hasLeft tells whether there is a strip whose tail has left all stands.
func (l *line) hasLeft() bool {
	return l.Line.Strip != "" && l.Line.Tail == len(l.Stands)
}

func (l *line) coil(t text) api.Errno {
	name := t.words[0]
	e := firstError(
		checkName(name),
		orElse(l.coilNamed(name) == nil, api.ErrExists),
		orElse(l.hasLeft(), api.ErrState))
	if e != api.OK {
		return e
	}
	c, e := trace.ParseCourse(t.rest)
	if e := firstError(e, orElse(l.isOfStrip(c), api.ErrClash)); e != api.OK {
		return e
	}
	l.Coils = append(l.Coils, api.MillCoil{Name: name, Slab: l.Line.Strip, Course: c})
	l.empty(api.MillCoiled)
	return api.OK
}

// isOfStrip tells whether a course begins with the slab of the strip in the line.
func (l *line) isOfStrip(c api.TraceCourse) bool {
	length := 0
	for _, n := range c.Lengths {
		length += n
	}
	return c.Slab == l.Line.Strip && length == l.slabNamed(c.Slab).Slab.Length
}

func (l *line) read(t text) api.Errno {
	c := l.coilNamed(t.words[0])
	if c == nil {
		return api.ErrMissing
	}
	word := t.words[1]
	r := append(slices.Clone(c.Readings), api.TraceReading{Step: t.numbers[0], At: t.numbers[1], Present: word == yes})
	_, wrong := trace.ReportOf(c.Course, r)
	if e := firstError(orElse(word == yes || word == no, api.ErrSyntax), wrong); e != api.OK {
		return e
	}
	c.Readings = r
	return api.OK
}

func (l *line) learn(t text) api.Errno {
	given, e := model.ParseCoil(t.rest)
	if e != api.OK {
		return e
	}
	c := l.coilNamed(given.Name)
	if c == nil {
		return api.ErrMissing
	}
	learned, wrong := model.Learned(l.grade, l.Correction, given)
	if e := firstError(orElse(!c.Learned, api.ErrDouble), wrong); e != api.OK {
		return e
	}
	l.Correction, c.Learned = learned, true
	return api.OK
}

func (l *line) forget(t text) api.Errno {
	forgotten, e := model.Forgotten(l.grade, l.Correction, t.numbers[0], t.numbers[1])
	if e != api.OK {
		return e
	}
	l.Correction = forgotten
	return api.OK
}

func (l *line) ship(t text) api.Errno {
	c := l.coilNamed(t.words[0])
	if c == nil {
		return api.ErrMissing
	}
	e := firstError(orElse(!c.Shipped, api.ErrState), orElse(len(c.Readings) > 0, api.ErrGap))
	if e != api.OK {
		return e
	}
	c.Shipped = true
	return api.OK
}

// knownCoil returns a coil, or the error of its name.
func (l *line) knownCoil(name string) (api.MillCoil, api.Errno) {
	c := l.coilNamed(name)
	if e := checkKnown(name, c != nil); e != api.OK {
		return api.MillCoil{}, e
	}
	return *c, api.OK
}

// report returns the report of a coil, or the error of its name.
func (l *line) report(name string) (string, api.Errno) {
	c, e := l.knownCoil(name)
	if e != api.OK {
		return "", e
	}
	return trace.ReportOf(c.Course, c.Readings)
}

// ReportFor returns the report of a coil.
func ReportFor(p api.MillPlant, l []api.MillEntry, coil string) (string, api.Errno) {
	x, e := lineAfter(p, l)
	if e != api.OK {
		return "", e
	}
	return x.report(coil)
}

// CausesFor returns the names of the causes of the first explanation of the readings of
// a coil.
func CausesFor(p api.MillPlant, l []api.MillEntry, x api.MillSearch) ([]string, api.Errno) {
	after, e := lineAfter(p, l)
	if e != api.OK {
		return nil, e
	}
	c, e := after.knownCoil(x.Coil)
	if e != api.OK {
		return nil, e
	}
	sets, e := trace.Explanations(c.Course, x.Causes, c.Readings)
	if e != api.OK {
		return nil, e
	}
	var names []string
	for _, i := range sets[0] {
		names = append(names, x.Causes[i].Name)
	}
	return names, api.OK
}

// CorrectionsOf returns the correction after each entry that changed it.
func CorrectionsOf(p api.MillPlant, l []api.MillEntry) ([]api.ModelCorrection, api.Errno) {
	x, e := lineAfter(p, l)
	if e != api.OK {
		return nil, e
	}
	return x.corrections, api.OK
}
