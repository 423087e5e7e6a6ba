package mill_test

import (
	"math/rand"
	"slices"
	"testing"

	"cobble/api"
	"cobble/mill"
)

func deskOf(t *testing.T, p api.MillPlant) *mill.Desk {
	t.Helper()
	d, e := mill.New(p)
	if e != api.OK || d == nil {
		t.Fatal(d, e)
	}
	return d
}

// enterAll enters all entries, which must be accepted.
func enterAll(t *testing.T, d *mill.Desk, l []api.MillEntry) {
	t.Helper()
	for _, x := range l {
		if e := d.Enter(x.At, x.By, x.Text); e != api.OK {
			t.Fatal(x, e)
		}
	}
}

// wantDesk wants that a desk has a log.
func wantDesk(t *testing.T, p api.MillPlant, d *mill.Desk, l []api.MillEntry) {
	t.Helper()
	wantSame(t, "Log", d.Log(), api.OK, l, api.OK)
	wantSame(t, "Journal", d.Journal(), api.OK, journalByHand(l), api.OK)
	for _, question := range []string{"count", "strip", "running", "slabs", "place s1", "report c1", "report", "place 1"} {
		want, wrong := mill.Answer(p, l, question)
		s, e := d.Answer(question)
		wantSame(t, question, s, e, want, wrong)
	}
}

func TestP10_7Desks(t *testing.T) {
	p := examplePlant()
	d := deskOf(t, p)
	wantDesk(t, p, d, nil)
	wantSame(t, "Undo", 0, d.Undo(), 0, api.ErrNone)
	l := richLog(t)
	enterAll(t, d, l)
	wantDesk(t, p, d, l)
	for n := len(l) - 1; n >= 0; n-- {
		wantSame(t, "Undo", 0, d.Undo(), 0, api.OK)
		wantDesk(t, p, d, l[:n])
	}
	wantSame(t, "Undo", 0, d.Undo(), 0, api.ErrNone)
	enterAll(t, d, l)
	wantDesk(t, p, d, l)
}

func TestP10_7New(t *testing.T) {
	for want, change := range map[api.Errno]func(p *api.MillPlant){
		api.ErrShape: func(p *api.MillPlant) { p.People = nil }, api.ErrName: func(p *api.MillPlant) { p.Stands[1] = "" }, api.ErrExists: func(p *api.MillPlant) { p.Stands[1] = "f1" },
		api.ErrSyntax: func(p *api.MillPlant) { p.Model = "x" }, api.ErrClash: func(p *api.MillPlant) { p.Passes = threeStands },
	} {
		p := examplePlant()
		change(&p)
		d, e := mill.New(p)
		if d != nil || e != want {
			t.Error(d, e, want)
		}
	}
}

func TestP10_7Refused(t *testing.T) {
	p := examplePlant()
	d := deskOf(t, p)
	l := coiledLog(t, p)
	enterAll(t, d, l)
	at := l[len(l)-1].At
	for want, x := range map[api.Errno]api.MillEntry{
		api.ErrMissing: entry(at, "eve", "note x"), api.ErrRange: entry(-1, "tom", "note x"), api.ErrOrder: entry(at-1, "tom", "note x"), api.ErrForm: entry(at, "tom", "note \n"), api.ErrSyntax: entry(at, "tom", "note"),
		api.ErrAllowed: entry(at, "ola", "thread"), api.ErrState: entry(at, "tom", "thread"), api.ErrExists: entry(at, "ola", slabText), api.ErrRefused: entry(at, "tom", "raise f1"),
	} {
		wantSame(t, x.Text, 0, d.Enter(x.At, x.By, x.Text), 0, want)
		wantDesk(t, p, d, l)
	}
	for range 60 - len(l) {
		l = append(l, entry(at, "tom", "note x"))
		enterAll(t, d, l[len(l)-1:])
	}
	wantSame(t, "Enter", 0, d.Enter(at, "tom", "note x"), 0, api.ErrLarge)
	wantDesk(t, p, d, l)
}

func TestP10_7Nil(t *testing.T) {
	var d *mill.Desk
	wantSame(t, "Enter", 0, d.Enter(-1, "", ""), 0, api.ErrNil)
	wantSame(t, "Undo", 0, d.Undo(), 0, api.ErrNil)
	s, e := d.Answer("x")
	wantSame(t, "Answer", s, e, "", api.ErrNil)
	wantSame(t, "Log", d.Log(), api.OK, nil, api.OK)
	wantSame(t, "Journal", d.Journal(), api.OK, "", api.OK)
}

// TestP10_7UndoAndEnter enters others in place of entries that are taken back, while
// earlier results are kept.
func TestP10_7UndoAndEnter(t *testing.T) {
	p := examplePlant()
	d := deskOf(t, p)
	l := coiledLog(t, p)
	enterAll(t, d, l)
	all := d.Log()
	for range 3 {
		d.Undo()
	}
	some := d.Log()
	other := append(slices.Clone(l[:len(l)-3]), entry(99, "tom", "note a"), entry(99, "tom", "note b"))
	enterAll(t, d, other[len(other)-2:])
	wantDesk(t, p, d, other)
	wantSame(t, "the log before", all, api.OK, l, api.OK)
	wantSame(t, "the log between", some, api.OK, l[:len(l)-3], api.OK)
}

// TestP10_7Apart has two desks of one plant.
func TestP10_7Apart(t *testing.T) {
	p := examplePlant()
	a, b := deskOf(t, p), deskOf(t, p)
	enterAll(t, a, chargedLog(t, p))
	enterAll(t, b, richLog(t))
	a.Undo()
	wantDesk(t, p, b, richLog(t))
	wantDesk(t, p, a, chargedLog(t, p)[:len(chargedLog(t, p))-1])
}

// TestP10_13EveryBeginning looks at the beginnings of random logs, and at a desk on
// which some entries are taken back.
func TestP10_13EveryBeginning(t *testing.T) {
	rnd := rand.New(rand.NewSource(1013))
	p := longPlant()
	for range 60 {
		l := randomHand(rnd, 200, nil).log
		d := deskOf(t, p)
		for n := range len(l) + 1 {
			i, e := mill.CheckLog(p, l[:n])
			wantSame(t, "CheckLog", i, e, 0, api.OK)
			if n == len(l) {
				break
			}
			longer, e := mill.Appended(p, l[:n], l[n])
			wantSame(t, "Appended", longer, e, l[:n+1], api.OK)
			enterAll(t, d, l[n:n+1])
			if rnd.Intn(3) == 0 {
				wantSame(t, "Undo", 0, d.Undo(), 0, api.OK)
				wantSame(t, "Log", d.Log(), api.OK, l[:n], api.OK)
				enterAll(t, d, l[n:n+1])
			}
		}
		wantDesk(t, p, d, l)
	}
}
