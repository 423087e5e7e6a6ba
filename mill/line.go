package mill

import (
	"slices"

	"cobble/api"
)

// standNamed is the index of a stand, and below 0 if there is none.
func (l *line) standNamed(name string) int {
	return slices.Index(l.Stands, name)
}

// looperAfter is the index of the looper after a stand, and below 0 if there is none.
func (l *line) looperAfter(stand string) int {
	return slices.Index(l.Stands[:len(l.Line.Raised)], stand)
}

func (l *line) runs(stand int) bool {
	return l.Line.Running[stand]
}

func (l *line) isLoaded(stand int) bool {
	return l.Line.Tail <= stand && stand < l.Line.Head
}

// isFed tells whether the stand before a stand pushes the strip into it.
func (l *line) isFed(stand int) bool {
	return stand > 0 && l.isLoaded(stand) && l.isLoaded(stand-1) && l.runs(stand-1)
}

// runsLoaded tells whether a stand must be stopped before a cobble is cleared.
func (l *line) runsLoaded(stand int) bool {
	return l.isLoaded(stand) && l.runs(stand)
}

// standsWhere are the names of the stands of which something is so.
func (l *line) standsWhere(is func(stand int) bool) []string {
	var names []string
	for stand, name := range l.Stands {
		if is(stand) {
			names = append(names, name)
		}
	}
	return names
}

func (l *line) isPlanned(order string) bool {
	o := l.orderNamed(order)
	return o != nil && o.Planned
}

func (l *line) draw(t text) api.Errno {
	s := l.slabNamed(t.words[0])
	if s == nil {
		return api.ErrMissing
	}
	e := firstError(
		orElse(s.Place == api.MillFurnace, api.ErrState),
		orElse(l.isPlanned(s.Order), api.ErrGap),
		orElse(l.Line.Strip == "", api.ErrBusy),
		orElse(!slices.Contains(l.Line.Running, false), api.ErrRefused))
	if e != api.OK {
		return e
	}
	s.Place = api.MillInLine
	l.Line.Strip = s.Slab.Name
	return api.OK
}

func (l *line) start(t text) api.Errno {
	stand := l.standNamed(t.words[0])
	if stand < 0 {
		return api.ErrMissing
	}
	e := firstError(orElse(!l.runs(stand), api.ErrState), orElse(!l.Line.Cobbled, api.ErrRefused))
	if e != api.OK {
		return e
	}
	l.Line.Running[stand] = true
	return api.OK
}

// checkStop returns the error of stopping a stand.
func (l *line) checkStop(stand int) api.Errno {
	return firstError(
		orElse(l.runs(stand), api.ErrState),
		orElse(!l.isLoaded(stand) || l.Line.Cobbled, api.ErrRefused),
		orElse(!l.isFed(stand), api.ErrRefused))
}

func (l *line) stop(t text) api.Errno {
	stand := l.standNamed(t.words[0])
	if stand < 0 {
		return api.ErrMissing
	}
	if e := l.checkStop(stand); e != api.OK {
		return e
	}
	l.Line.Running[stand] = false
	return api.OK
}

func (l *line) thread(text) api.Errno {
	if l.Line.Strip == "" || l.Line.Head == len(l.Stands) {
		return api.ErrState
	}
	if l.Line.Cobbled || !l.runs(l.Line.Head) {
		return api.ErrRefused
	}
	l.Line.Head++
	return api.OK
}

func (l *line) raise(t text) api.Errno {
	looper := l.looperAfter(t.words[0])
	if looper < 0 {
		return api.ErrMissing
	}
	e := firstError(
		orElse(!l.Line.Raised[looper], api.ErrState),
		orElse(!l.Line.Cobbled, api.ErrRefused),
		orElse(l.isLoaded(looper) && l.isLoaded(looper+1), api.ErrRefused))
	if e != api.OK {
		return e
	}
	l.Line.Raised[looper] = true
	return api.OK
}

func (l *line) lower(t text) api.Errno {
	looper := l.looperAfter(t.words[0])
	if looper < 0 {
		return api.ErrMissing
	}
	if !l.Line.Raised[looper] {
		return api.ErrState
	}
	l.Line.Raised[looper] = false
	return api.OK
}

// isRaised tells whether there is a looper after a stand, and it is raised.
func (l *line) isRaised(stand int) bool {
	return stand < len(l.Line.Raised) && l.Line.Raised[stand]
}

func (l *line) leave(text) api.Errno {
	e := firstError(
		orElse(l.isLoaded(l.Line.Tail), api.ErrState),
		orElse(!l.Line.Cobbled && !l.isRaised(l.Line.Tail), api.ErrRefused))
	if e != api.OK {
		return e
	}
	l.Line.Tail++
	return api.OK
}

func (l *line) cobble(t text) api.Errno {
	stand := l.standNamed(t.words[0])
	if stand < 0 {
		return api.ErrMissing
	}
	e := firstError(orElse(!l.Line.Cobbled, api.ErrState), orElse(l.isLoaded(stand), api.ErrRefused))
	if e != api.OK {
		return e
	}
	l.Line.Cobbled, l.Line.Cobble = true, stand
	clear(l.Line.Raised)
	return api.OK
}

func (l *line) clear(text) api.Errno {
	e := firstError(
		orElse(l.Line.Cobbled, api.ErrState),
		orElse(len(l.standsWhere(l.runsLoaded)) == 0, api.ErrRefused))
	if e != api.OK {
		return e
	}
	l.empty(api.MillScrapped)
	return api.OK
}

// empty takes the strip out of the line, and puts its slab to a place.
func (l *line) empty(place int) {
	l.slabNamed(l.Line.Strip).Place = place
	l.Line.Strip, l.Line.Head, l.Line.Tail = "", 0, 0
	l.Line.Cobbled, l.Line.Cobble = false, 0
}

func (l *line) rolls(t text) api.Errno {
	stand := l.standNamed(t.words[0])
	if stand < 0 {
		return api.ErrMissing
	}
	e := firstError(
		orElse(!l.runs(stand), api.ErrState),
		orElse(!l.isLoaded(stand), api.ErrRefused),
		limit(1, api.MaxMillRound)(t.numbers[0]))
	if e != api.OK {
		return e
	}
	l.Line.Rounds[stand] = t.numbers[0]
	return api.OK
}

// StateOf returns the state after a log.
func StateOf(p api.MillPlant, l []api.MillEntry) (api.MillState, api.Errno) {
	x, e := lineAfter(p, l)
	if e != api.OK {
		return api.MillState{}, e
	}
	return x.MillState, api.OK
}

// StopsAfter returns the stops after a cobble at a stand.
func StopsAfter(p api.MillPlant, l []api.MillEntry, stand string) ([]string, api.Errno) {
	x, e := lineAfter(p, l)
	if e != api.OK {
		return nil, e
	}
	i := x.standNamed(stand)
	if e := firstError(checkKnown(stand, i >= 0), orElse(x.isLoaded(i), api.ErrRefused)); e != api.OK {
		return nil, e
	}
	return x.standsWhere(x.runsLoaded), api.OK
}

// StoppableIn returns the names of the stands that may be stopped.
func StoppableIn(p api.MillPlant, l []api.MillEntry) ([]string, api.Errno) {
	x, e := lineAfter(p, l)
	if e != api.OK {
		return nil, e
	}
	return x.standsWhere(func(stand int) bool { return x.checkStop(stand) == api.OK }), api.OK
}
