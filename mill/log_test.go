package mill_test

import (
	"fmt"
	"math"
	"math/rand"
	"slices"
	"strings"
	"testing"

	"cobble/api"
	"cobble/mill"
)

// TestP10_2Errors has all faults at once, and mends them from the first one on.
func TestP10_2Errors(t *testing.T) {
	p := examplePlant()
	p.People[0].Role = 4
	l := make([]api.MillEntry, 61)
	wantErrors(t, func() (int, api.Errno) { return mill.CheckLog(p, l) },
		step{0, api.ErrKind, func() { p = examplePlant() }},
		step{0, api.ErrLarge, func() { l = l[:3] }},
		step{0, api.ErrMissing, func() {
			l[0] = entry(5, "tom", "note ")
			l[1] = entry(-1, "eve", strings.Repeat("\x1f", 301))
			l[2] = l[1]
		}},
		step{1, api.ErrMissing, func() { l[1].By = "vic" }},
		step{1, api.ErrRange, func() { l[1].At = api.MaxTick + 1 }},
		step{1, api.ErrRange, func() { l[1].At = 4 }},
		step{1, api.ErrOrder, func() { l[1].At = 5 }},
		step{1, api.ErrLarge, func() { l[1].Text = strings.Repeat("\x1f", 300) }},
		step{1, api.ErrForm, func() { l[1].Text = "threads x" }},
		step{1, api.ErrSyntax, func() { l[1].Text = "thread x" }},
		step{1, api.ErrAllowed, func() { l[1].By = "tom" }},
		step{1, api.ErrSyntax, func() { l[1].Text = "thread" }},
		step{1, api.ErrState, func() { l[1].Text = "start f1" }},
		step{2, api.ErrMissing, func() { l[2].By, l[2].At = "mia", api.MaxTick }},
		step{2, api.ErrLarge, func() { l[2].Text = "start f1" }},
		step{2, api.ErrState, func() { l[2].Text = "stop f1" }},
	)
}

func TestP10_2Times(t *testing.T) {
	p := examplePlant()
	for _, x := range []struct {
		at int
		e  api.Errno
	}{{math.MinInt, api.ErrRange}, {-1, api.ErrRange}, {0, api.OK}, {1, api.OK}, {api.MaxTick, api.OK}, {api.MaxTick + 1, api.ErrRange}, {math.MaxInt, api.ErrRange}} {
		i, e := mill.CheckLog(p, []api.MillEntry{entry(x.at, "vic", "note ")})
		wantSame(t, "CheckLog", i, e, 0, x.e)
	}
	l := []api.MillEntry{entry(0, "vic", "note "), entry(0, "vic", "note "), entry(7, "vic", "note "), entry(7, "vic", "note "), entry(6, "vic", "note ")}
	i, e := mill.CheckLog(p, l)
	wantSame(t, "CheckLog", i, e, 4, api.ErrOrder)
}

func TestP10_2Bytes(t *testing.T) {
	p := examplePlant()
	for b := range 256 {
		want := api.ErrForm
		if b >= 32 && b <= 126 {
			want = api.OK
		}
		for _, s := range []string{"note " + string([]byte{byte(b)}), "note a" + string([]byte{byte(b)}) + "z"} {
			i, e := mill.CheckLog(p, []api.MillEntry{entry(0, "vic", s)})
			wantSame(t, fmt.Sprint("a byte ", b), i, e, 0, want)
		}
	}
	for _, s := range []string{"note é", "note \u00a0", "note \ufffd", "note 日本", "\xff", "thr\tead", "thread\n"} {
		i, e := mill.CheckLog(p, []api.MillEntry{entry(0, "tom", s)})
		wantSame(t, s, i, e, 0, api.ErrForm)
	}
	for n, want := range map[int]api.Errno{5: api.OK, 299: api.OK, 300: api.OK, 301: api.ErrLarge} {
		i, e := mill.CheckLog(p, []api.MillEntry{entry(0, "vic", "note "+strings.Repeat("x", n-5))})
		wantSame(t, "a long text", i, e, 0, want)
	}
}

// TestP10_2Count covers Appended, too: the longest log takes no further entry.
func TestP10_2Count(t *testing.T) {
	p := examplePlant()
	l := slices.Repeat([]api.MillEntry{entry(3, "vic", "note x")}, 60)
	i, e := mill.CheckLog(p, l)
	wantSame(t, "CheckLog", i, e, 0, api.OK)
	longer, e := mill.Appended(p, l, entry(-1, "eve", ""))
	wantSame(t, "Appended", longer, e, nil, api.ErrLarge)
	i, e = mill.CheckLog(p, append(l, entry(3, "vic", "note x")))
	wantSame(t, "CheckLog", i, e, 0, api.ErrLarge)
	longer, e = mill.Appended(p, l[:59], l[59])
	wantSame(t, "Appended", longer, e, l, api.OK)
	l[20].At = 4
	i, e = mill.CheckLog(p, l)
	wantSame(t, "CheckLog", i, e, 21, api.ErrOrder)
}

func TestP10_2Appended(t *testing.T) {
	p := examplePlant()
	l, e := mill.Appended(p, nil, entry(5, "tom", "start f1"))
	wantSame(t, "Appended", l, e, []api.MillEntry{entry(5, "tom", "start f1")}, api.OK)
	longer, e := mill.Appended(p, l, entry(6, "tom", "start f2"))
	wantSame(t, "Appended", longer, e, []api.MillEntry{entry(5, "tom", "start f1"), entry(6, "tom", "start f2")}, api.OK)
	for want, x := range map[api.Errno]api.MillEntry{
		api.ErrMissing: entry(5, "eve", "start f2"), api.ErrOrder: entry(4, "tom", "start f2"), api.ErrAllowed: entry(5, "ola", "start f2"), api.ErrState: entry(5, "mia", "start f1"),
	} {
		longer, e = mill.Appended(p, l, x)
		wantSame(t, x.Text, longer, e, nil, want)
	}
	longer, e = mill.Appended(p, []api.MillEntry{entry(5, "tom", "start f3")}, entry(5, "eve", "start f2"))
	wantSame(t, "Appended to a wrong log", longer, e, nil, api.ErrMissing)
	p.Model = ""
	longer, e = mill.Appended(p, []api.MillEntry{entry(5, "tom", "start f3")}, entry(5, "eve", "start f2"))
	wantSame(t, "Appended of a wrong plant", longer, e, nil, api.ErrSyntax)
}

// forms are texts of all kinds, with the least role that may make them.
var forms = []struct {
	text string
	role int
}{
	{"note x", api.MillViewer}, {"order x", api.MillPlanner}, {"slab x", api.MillPlanner}, {"assign s9 o9", api.MillPlanner}, {"schedule o9 x", api.MillPlanner},
	{"charge s9", api.MillOperator}, {"draw s9", api.MillOperator}, {"start f9", api.MillOperator}, {"stop f9", api.MillOperator}, {"thread", api.MillOperator},
	{"raise f9", api.MillOperator}, {"lower f9", api.MillOperator}, {"leave", api.MillOperator}, {"cobble f9", api.MillOperator}, {"clear", api.MillOperator},
	{"rolls f9 5", api.MillOperator}, {"coil c-9 x", api.MillOperator}, {"read c9 0 0 yes", api.MillOperator}, {"learn c9 0@0", api.MillOperator},
	{"forget 9 9", api.MillMaster}, {"ship c9", api.MillMaster},
}

// TestP10_2Roles has texts of the right form and of a wrong one: neither counts before
// the role.
func TestP10_2Roles(t *testing.T) {
	people := map[int]string{api.MillViewer: "vic", api.MillPlanner: "ola", api.MillOperator: "tom", api.MillMaster: "mia"}
	for _, x := range forms {
		word := strings.Split(x.text, " ")[0]
		for role, by := range people {
			for _, text := range []string{x.text, word, word + " ", word + " a b c d e f", word + "  "} {
				_, e := mill.CheckLog(examplePlant(), []api.MillEntry{entry(0, by, text)})
				if (e == api.ErrAllowed) != (role < x.role) {
					t.Errorf("%s by %s: %v", text, by, e)
				}
			}
		}
	}
}

// TestP10_2Forms has texts that are not of their form, in a state in which they would
// have other errors, or none.
func TestP10_2Forms(t *testing.T) {
	p := examplePlant()
	for _, l := range [][]api.MillEntry{nil, coiledLog(t, p), threadedLog(t, p, 1)} {
		for _, text := range []string{
			"", " ", "x", "Note x", "NOTE x", "notes x", " note x", "note", "order", "slab", "learn", "assign", "assign ", "assign s1", "assign s1 ", "assign  o1", "assign s1 o1 ", "assign s1 o1 x", "assign s1  o1",
			"schedule", "schedule ", "schedule o1", "schedule  a 80 60", "charge", "charge ", "charge s1 ", "charge  s1", "charge s1 x", "draw", "draw ", "draw s1 ", "draw s1 x",
			"start", "start ", "start f1 ", "start f1 f2", "stop", "stop f1 ", "stop  f1", "thread ", "thread x", "threads", "raise", "raise ", "raise f1 ", "raise f1 f2", "lower", "lower  ", "lower f1 x",
			"leave ", "leave x", "cobble", "cobble ", "cobble f1 ", "clear ", "clear f1", "rolls", "rolls f1", "rolls f1 ", "rolls f1 5 ", "rolls f1 5 5", "rolls  5", "rolls f1  5",
			"rolls f1 x", "rolls f1 -1", "rolls f1 +1", "rolls f1 -0", "rolls f1 01", "rolls f1 00", "rolls f1 12345678", "rolls f1 1_0", "rolls f1 0x1", "rolls f1 1.0",
			"coil", "coil ", "coil c1", "coil  s1;1*1", "read", "read c1", "read c1 1", "read c1 1 1", "read c1 1 1 ", "read c1 1 1 yes ", "read c1 1 1 yes no", "read  1 1 yes", "read c1  1 yes", "read c1 1  yes",
			"read c1 x 1 yes", "read c1 1 x yes", "read c1 01 1 yes", "read c1 1 01 yes", "read c1 -1 1 yes", "read c1 1 -1 yes", "read c1 12345678 1 yes", "read c1 1 12345678 yes", "read c9 1 +1 yes",
			"forget", "forget ", "forget 1", "forget 1 ", "forget 1 1 ", "forget 1 1 1", "forget -1 1", "forget 1 -1", "forget 01 1", "forget 1 01", "forget 12345678 1", "forget 1 12345678", "forget x 1", "forget 1 x",
			"ship", "ship ", "ship c1 ", "ship c1 c1",
		} {
			wantRefused(t, p, l, api.ErrSyntax, "mia "+text)
		}
	}
}

// TestP10_2NotForms has texts that are of their form, though they mean nothing.
func TestP10_2NotForms(t *testing.T) {
	p := examplePlant()
	l := coiledLog(t, p)
	for want, texts := range map[api.Errno][]string{
		api.OK:         {"note ", "note  ", "note note", "note " + strings.Repeat(" ", 295)},
		api.ErrMissing: {"charge s2", "charge 1", "charge ;", "assign s1 ~", "assign 1 1", "start F1", "start f1-", "schedule 1 ", "schedule o2  a", "read c2 0 0 maybe", "read 1 9999999 9999999 x", "ship 7", "rolls f3 0"},
		api.ErrName:    {"coil 1 ", "coil c_1 x", "coil abcdefghijklm x", "coil ~ s1;500*30,500*30"},
		api.ErrSyntax:  {"order ", "order  o2 grade 1 thickness 3 mm width 1200 mm", "slab ", "schedule o1 ", "schedule o1  80 60", "learn ", "learn  c1 1@1", "learn c1 1@1 "},
		api.ErrRange:   {"forget 9999999 0", "forget 5 0", "forget 0 901", "read c1 2 0 yes", "read c1 9999999 0 no"},
		api.ErrState:   {"rolls f1 9999999", "coil abcdefghijkl "},
	} {
		for _, text := range texts {
			longer, e := mill.Appended(p, l, entry(99, "mia", text))
			if e != want || (e == api.OK) != (len(longer) == len(l)+1) {
				t.Errorf("%s: %v in place of %v", text, e, want)
			}
		}
	}
}

// TestP10_2ByHand compares the errors of random entries with those of the table.
func TestP10_2ByHand(t *testing.T) {
	rnd := rand.New(rand.NewSource(102))
	p := longPlant()
	seen, seenErrors := map[string]int{}, map[api.Errno]int{}
	for range 150 {
		h := randomHand(rnd, 500, func(h *hand, e api.MillEntry, want api.Errno) {
			longer, f := mill.Appended(p, h.log, e)
			var wanted []api.MillEntry
			if want == api.OK {
				wanted = append(slices.Clone(h.log), e)
				seen[strings.Split(e.Text, " ")[0]]++
			}
			seenErrors[want]++
			wantSame(t, fmt.Sprint("Appended ", e), longer, f, wanted, want)
		})
		s, e := mill.StateOf(p, h.log)
		wantSame(t, "StateOf", s, e, h.state(), api.OK)
		i, e := mill.CheckLog(p, h.log)
		wantSame(t, "CheckLog", i, e, 0, api.OK)
	}
	for _, x := range forms {
		wantSeen(t, seen, 5, strings.Split(x.text, " ")[0])
	}
	wantSeen(t, seenErrors, 5, api.ErrMissing, api.ErrOrder, api.ErrSyntax, api.ErrAllowed, api.ErrExists, api.ErrState, api.ErrRefused, api.ErrGap, api.ErrBusy, api.ErrRange, api.ErrClash, api.ErrDouble, api.ErrLarge, api.ErrFull, api.ErrName, api.ErrForm)
}

// TestP10_2WrongLogs puts a wrong entry somewhere into random logs.
func TestP10_2WrongLogs(t *testing.T) {
	rnd := rand.New(rand.NewSource(1020))
	p := longPlant()
	for range 150 {
		h := newHand(p)
		l := randomHand(rnd, 60, nil).log
		i := rnd.Intn(len(l) + 1)
		for _, e := range l[:i] {
			if f := h.enter(e); f != api.OK {
				t.Fatal(f)
			}
		}
		if len(l) >= 60 {
			continue
		}
		wrong := h.randomEntry(rnd)
		if e := h.enter(wrong); e != api.OK {
			n, f := mill.CheckLog(p, slices.Insert(slices.Clone(l), i, wrong))
			wantSame(t, "CheckLog", n, f, i, e)
		}
	}
}
