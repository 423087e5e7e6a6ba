package mill

import (
	"slices"

	"cobble/api"
)

// Desk keeps a log.
type Desk struct {
	plant api.MillPlant
	log   []api.MillEntry
}

// New returns a desk with a plant and the empty log.
func New(p api.MillPlant) (*Desk, api.Errno) {
	if _, e := CheckPlant(p); e != api.OK {
		return nil, e
	}
	p.People, p.Stands = slices.Clone(p.People), slices.Clone(p.Stands)
	return &Desk{plant: p}, api.OK
}

// Enter appends an entry.
func (d *Desk) Enter(at int, by, text string) api.Errno {
	if d == nil {
		return api.ErrNil
	}
	longer, e := Appended(d.plant, d.log, api.MillEntry{At: at, By: by, Text: text})
	if e == api.OK {
		d.log = longer
	}
	return e
}

// Undo removes the last entry.
func (d *Desk) Undo() api.Errno {
	if d == nil {
		return api.ErrNil
	}
	if len(d.log) == 0 {
		return api.ErrNone
	}
	n := len(d.log) - 1
	d.log = d.log[:n:n]
	return api.OK
}

// Log returns the log of the desk.
func (d *Desk) Log() []api.MillEntry {
	if d == nil {
		return nil
	}
	return slices.Clone(d.log)
}

// Answer returns the answer to a question.
func (d *Desk) Answer(question string) (string, api.Errno) {
	if d == nil {
		return "", api.ErrNil
	}
	return Answer(d.plant, d.log, question)
}

// Journal returns the journal of the log.
func (d *Desk) Journal() string {
	if d == nil {
		return ""
	}
	return journalOf(d.log)
}
