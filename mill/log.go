package mill

import (
	"slices"

	"cobble/api"
)

// line is the works, and the state after the entries so far, with the correction after
// each one of them that changed it.
type line struct {
	works
	api.MillState
	entries     []api.MillEntry
	corrections []api.ModelCorrection
}

// emptyLine is the line at the beginning.
func emptyLine(w works) *line {
	n := len(w.Stands)
	l := &line{works: w}
	l.Line.Running = make([]bool, n)
	l.Line.Raised = make([]bool, n-1)
	l.Line.Rounds = slices.Repeat([]int{api.MillRound}, n)
	return l
}

// replayed returns the line after a log, or the first error of the plant, or of the log,
// and the index of its entry.
func replayed(p api.MillPlant, l []api.MillEntry) (*line, int, api.Errno) {
	w, _, e := worksOf(p)
	if e := firstError(e, orElse(len(l) <= api.MaxMillEntries, api.ErrLarge)); e != api.OK {
		return nil, 0, e
	}
	x := emptyLine(w)
	for i, entry := range l {
		if e := x.enter(entry); e != api.OK {
			return nil, i, e
		}
	}
	return x, 0, api.OK
}

// lineAfter returns the line after a log, or the error of the plant, or of the log.
func lineAfter(p api.MillPlant, l []api.MillEntry) (*line, api.Errno) {
	x, _, e := replayed(p, l)
	return x, e
}

// CheckLog returns the first error of a log, and the index of its entry.
func CheckLog(p api.MillPlant, l []api.MillEntry) (int, api.Errno) {
	_, i, e := replayed(p, l)
	return i, e
}

// Appended returns a log with a further entry.
func Appended(p api.MillPlant, l []api.MillEntry, e api.MillEntry) ([]api.MillEntry, api.Errno) {
	x, wrong := lineAfter(p, l)
	if wrong != api.OK {
		return nil, wrong
	}
	if wrong := x.enter(e); wrong != api.OK {
		return nil, wrong
	}
	return x.entries, api.OK
}

// enter makes the effect of a further entry, or returns its error, because of which
// nothing changes.
func (l *line) enter(e api.MillEntry) api.Errno {
	if wrong := l.checkCircumstances(e); wrong != api.OK {
		return wrong
	}
	before := l.Correction
	if wrong := l.act(e); wrong != api.OK {
		return wrong
	}
	l.entries = append(l.entries, e)
	if l.Correction != before {
		l.corrections = append(l.corrections, l.Correction)
	}
	return api.OK
}

// checkCircumstances returns the error of all of an entry but its words.
func (l *line) checkCircumstances(e api.MillEntry) api.Errno {
	return firstError(
		orElse(len(l.entries) < api.MaxMillEntries, api.ErrLarge),
		orElse(named(l.People, e.By, nameOfPerson) != nil, api.ErrMissing),
		limit(0, api.MaxTick)(e.At),
		orElse(e.At >= l.lastTime(), api.ErrOrder),
		orElse(len(e.Text) <= api.MaxMillText, api.ErrLarge),
		checkCharacters(e.Text))
}

// lastTime is the time of the last entry.
func (l *line) lastTime() int {
	if len(l.entries) == 0 {
		return 0
	}
	return l.entries[len(l.entries)-1].At
}

// act does what the text of an entry says.
func (l *line) act(e api.MillEntry) api.Errno {
	k := kindOf(e.Text)
	if k == nil {
		return api.ErrSyntax
	}
	if named(l.People, e.By, nameOfPerson).Role < k.role {
		return api.ErrAllowed
	}
	t, is := k.read(e.Text)
	if !is {
		return api.ErrSyntax
	}
	return k.act(l, t)
}
