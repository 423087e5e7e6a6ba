package mill_test

import (
	"math"
	"reflect"
	"slices"
	"strings"
	"testing"

	"cobble/api"
	"cobble/mill"
)

// The tests of this file are those of DOC.md's section 'Rules', for all calls of
// the package.

// arguments are one value for each argument of the calls.
type arguments struct {
	plant                  api.MillPlant
	log, other             []api.MillEntry
	further                api.MillEntry
	order, stand, coil     string
	search                 api.MillSearch
	text, journal, request string
	after                  int
}

func exampleArguments(t *testing.T) arguments {
	t.Helper()
	p := examplePlant()
	l := richLog(t)
	at := len(l)
	return arguments{
		plant: p, log: l, further: entry(at, "tom", "lower f1"), order: "o1", stand: "f2", coil: "c1",
		other:  append(slices.Clone(l[:at-7]), entry(at, "tom", "draw s3"), entry(at, "tom", "read c1 1 5 no"), entry(at, "mia", "ship c1")),
		search: api.MillSearch{Coil: "c1", Causes: []api.TraceCause{{Name: "far", From: 200, To: 300}, {Name: "near", From: 90, To: 100}}},
		text:   "ab", after: 7, journal: journalOf(t, p, l) + "5 tom", request: "report c1",
	}
}

// results calls every function, and collects what each one returns; the last
// value is its error, if it returns one.
func results(a arguments) map[string][]any {
	l := map[string][]any{}
	add := func(name string, x ...any) { l[name] = x }
	n, e := mill.CheckPlant(a.plant)
	add("CheckPlant", n, e)
	n, e = mill.SumOf(a.text, a.after)
	add("SumOf", n, e)
	addLogResults(a, add)
	addStateResults(a, add)
	addDeskResults(a, add)
	return l
}

func addLogResults(a arguments, add func(string, ...any)) {
	n, e := mill.CheckLog(a.plant, a.log)
	add("CheckLog", n, e)
	longer, e := mill.Appended(a.plant, a.log, a.further)
	add("Appended", longer, e)
	j, e := mill.Journal(a.plant, a.log)
	add("Journal", j, e)
	back, n, e := mill.Recovered(a.plant, a.journal)
	add("Recovered", back, n, e)
	merged, refused, e := mill.Merged(a.plant, a.log, a.other)
	add("Merged", merged, refused, e)
}

func addStateResults(a arguments, add func(string, ...any)) {
	s, e := mill.StateOf(a.plant, a.log)
	add("StateOf", s, e)
	names, e := mill.SlabsFor(a.plant, a.log, a.order)
	add("SlabsFor", names, e)
	names, e = mill.StopsAfter(a.plant, a.log, a.stand)
	add("StopsAfter", names, e)
	names, e = mill.StoppableIn(a.plant, a.log)
	add("StoppableIn", names, e)
	r, e := mill.ReportFor(a.plant, a.log, a.coil)
	add("ReportFor", r, e)
	names, e = mill.CausesFor(a.plant, a.log, a.search)
	add("CausesFor", names, e)
	c, e := mill.CorrectionsOf(a.plant, a.log)
	add("CorrectionsOf", c, e)
	answer, e := mill.Answer(a.plant, a.log, a.request)
	add("Answer", answer, e)
}

func addDeskResults(a arguments, add func(string, ...any)) {
	d, e := mill.New(a.plant)
	add("New", d == nil, e)
	if d == nil {
		return
	}
	errors := []api.Errno{}
	for _, x := range append(slices.Clone(a.log), a.further) {
		errors = append(errors, d.Enter(x.At, x.By, x.Text))
	}
	s, e := d.Answer(a.request)
	add("Desk.Answer", s, e)
	first, journal := d.Log(), d.Journal()
	errors = append(errors, d.Undo())
	add("Desk", errors, first, journal, d.Log(), d.Journal())
}

// slicesIn are the arguments that hold slices.
func (a arguments) slicesIn() []any {
	return []any{a.plant, a.log, a.other, a.search}
}

func (a arguments) copied() arguments {
	a.plant, a.log, a.other, a.search = copyOf(a.plant), copyOf(a.log), copyOf(a.other), copyOf(a.search)
	return a
}

func alikeResults(t *testing.T, a, b map[string][]any) {
	t.Helper()
	for name, values := range a {
		for i, x := range values {
			if y := b[name][i]; !alike(x, y) {
				t.Errorf("%s: %v and %v", name, x, y)
			}
		}
	}
}

// overwrite changes every value that a value holds in slices, also behind their ends.
func overwrite(x reflect.Value) {
	switch x.Kind() {
	case reflect.Slice:
		all := x.Slice(0, x.Cap())
		for i := range all.Len() {
			overwrite(all.Index(i))
		}
	case reflect.Struct:
		for i := range x.NumField() {
			overwrite(x.Field(i))
		}
	case reflect.Int:
		if x.CanSet() {
			x.SetInt(12345)
		}
	case reflect.Bool:
		if x.CanSet() {
			x.SetBool(!x.Bool())
		}
	case reflect.String:
		if x.CanSet() {
			x.SetString("overwritten")
		}
	}
}

// oddArguments are outside the limits in many ways.
func oddArguments(t *testing.T) []arguments {
	odd := []int{math.MinInt, math.MinInt + 1, -1000000001, -1, 0, 1, 2, 3, 7, 100, 1000000, 1000032, 1000033, 1000000000001, math.MaxInt - 1, math.MaxInt}
	texts := []string{"", " ", ";", "1", "f1", "note ", "\x00", "\xff \xfe", "read c1 9999999 9999999 yes", "forget 9999999 9999999", "coil c3 s3;1*1", "learn c2 0@0", "schedule o1 a", "schedule o1 a 0 0", "order o9", "slab s9", "rolls f1 9999999", strings.Repeat("x ", 200), strings.Repeat("1\n", 40000), "place ", "report ", "version"}
	example := exampleArguments(t)
	var l []arguments
	for i, n := range odd {
		for j, s := range texts {
			a := example.copied()
			a.further, a.after, a.text = entry(n, "tom", s), n, s
			a.order, a.stand, a.coil, a.request, a.journal, a.search.Coil = s, s, s, s, s, s
			b := example.copied()
			b.log[(i*7+j)%len(b.log)].Text, b.other[j%len(b.other)].By = s, s
			b.search.Causes[1].Period, b.journal = n, s+b.journal
			c := example.copied()
			c.log[i%len(c.log)].At, c.plant.People[i%4].Role = n, j-1
			c.further.Text, c.journal = s, c.journal[:j*10]+s
			d := example.copied()
			switch i % 4 {
			case 0:
				d.plant.People[1].Name = s
			case 1:
				d.plant.Stands[1] = s
			case 2:
				d.plant.Passes = s
			case 3:
				d.plant.Model = s
			}
			l = append(l, a, b, c, d)
		}
	}
	return append(l, arguments{}, arguments{plant: examplePlant()})
}

// TestR1ZeroBesideErrors covers R2, too: no call panics. (The calls that check plants
// and logs return an index beside an error.)
func TestR1ZeroBesideErrors(t *testing.T) {
	indexed := []string{"CheckPlant", "CheckLog", "New"}
	seen := map[api.Errno]int{}
	for _, a := range oddArguments(t) {
		for name, values := range results(a) {
			e, ok := values[len(values)-1].(api.Errno)
			if !ok || e == api.OK || slices.Contains(indexed, name) {
				continue
			}
			seen[e]++
			for _, x := range values[:len(values)-1] {
				if !copied(reflect.ValueOf(x)).IsZero() {
					t.Errorf("%s: %v beside %v", name, x, e)
				}
			}
		}
	}
	wantSeen(t, seen, 5, api.ErrName, api.ErrMissing, api.ErrSyntax, api.ErrRange, api.ErrOrder, api.ErrForm, api.ErrLarge, api.ErrKind, api.ErrState)
}

var (
	logCalls   = []string{"CheckLog", "Appended", "Journal", "Merged", "StateOf", "SlabsFor", "StopsAfter", "StoppableIn", "ReportFor", "CausesFor", "CorrectionsOf", "Answer"}
	plantCalls = append([]string{"CheckPlant", "Recovered", "New"}, logCalls...)
)

// wantFrom wants an error of each one of some calls.
func wantFrom(t *testing.T, a arguments, e api.Errno, calls ...string) {
	t.Helper()
	l := results(a)
	for _, name := range calls {
		if f := l[name][len(l[name])-1]; f != e {
			t.Errorf("%s: %v in place of %v", name, f, e)
		}
	}
}

func TestR2LargeArgumentsEnd(t *testing.T) {
	const n = 300001
	a := exampleArguments(t)
	a.other = make([]api.MillEntry, n)
	wantFrom(t, a, api.ErrLarge, "Merged")
	a.log = a.other
	a.journal = strings.Repeat("5 tom note x 5\n", n)
	wantFrom(t, a, api.ErrLarge, append(slices.Clone(logCalls), "Recovered")...)
	a.plant.Stands = make([]string, n)
	wantFrom(t, a, api.ErrLarge, plantCalls...)
	a.plant.Stands, a.plant.Passes = []string{"f1", "f2"}, strings.Repeat("1 ", n)
	wantFrom(t, a, api.ErrSyntax, plantCalls...)
	a.plant.People = make([]api.MillPerson, n)
	wantFrom(t, a, api.ErrLarge, plantCalls...)
	a.plant.People = []api.MillPerson{{Name: strings.Repeat("a", n)}}
	wantFrom(t, a, api.ErrName, plantCalls...)
	a = exampleArguments(t)
	long := strings.Repeat("a", n)
	a.order, a.stand, a.coil, a.search.Coil, a.request = long, long, long, long, "place "+long
	wantFrom(t, a, api.ErrName, "SlabsFor", "StopsAfter", "ReportFor", "CausesFor", "Answer")
	a.further.Text, a.text = long, long
	wantFrom(t, a, api.ErrLarge, "Appended")
	wantFrom(t, a, api.OK, "SumOf")
}

// TestR2LongestWays is the most that valid arguments ask for.
func TestR2LongestWays(t *testing.T) {
	a := exampleArguments(t)
	text := "note " + strings.Repeat("x", 295)
	for len(a.log) < 60 {
		a.log = append(a.log, entry(api.MaxTick, "mia", text))
	}
	a.other = slices.Repeat([]api.MillEntry{entry(api.MaxTick, "mia", text)}, 60)
	a.journal = journalOf(t, a.plant, a.other)
	a.further.Text = text
	wantFrom(t, a, api.ErrLarge, "Appended")
	wantFrom(t, a, api.OK, append([]string{"Recovered"}, slices.DeleteFunc(slices.Clone(logCalls), func(name string) bool { return name == "Appended" })...)...)
	if len(a.journal) > api.MaxString {
		t.Error("the longest journal is longer than", api.MaxString)
	}
}

func TestR3ArgumentsStayAsTheyAre(t *testing.T) {
	for _, a := range append(oddArguments(t)[:400], exampleArguments(t)) {
		before := a.copied()
		results(a)
		if !reflect.DeepEqual(before, a.copied()) {
			t.Fatal("changed", before, a)
		}
	}
}

// TestR3NothingIsShared overwrites results, and then arguments, and compares what
// should have stayed.
func TestR3NothingIsShared(t *testing.T) {
	a := exampleArguments(t)
	original := a.copied()
	first := results(a)
	want := map[string][]any{}
	for name, values := range first {
		for _, x := range values {
			want[name] = append(want[name], copied(reflect.ValueOf(x)).Interface())
		}
	}
	for _, values := range first {
		for _, x := range values {
			overwrite(reflect.ValueOf(x))
		}
	}
	if !reflect.DeepEqual(a.copied(), original) {
		t.Error("a result shares memory with an argument", a)
	}
	alikeResults(t, want, results(a))

	l := results(a)
	for _, x := range a.slicesIn() {
		overwrite(reflect.ValueOf(x))
	}
	alikeResults(t, want, l)
}

// TestR3DesksKeepTheirOwn overwrites the plant that a desk was given, and the logs that
// it returned.
func TestR3DesksKeepTheirOwn(t *testing.T) {
	p := examplePlant()
	l := richLog(t)
	d := deskOf(t, p)
	overwrite(reflect.ValueOf(p))
	for i, x := range l {
		enterAll(t, d, []api.MillEntry{x})
		given := d.Log()
		wantSame(t, "Log", given, api.OK, l[:i+1], api.OK)
		overwrite(reflect.ValueOf(given))
	}
	d.Undo()
	given := d.Log()
	overwrite(reflect.ValueOf(given))
	enterAll(t, d, l[len(l)-1:])
	wantDesk(t, examplePlant(), d, l)
}

// slicesOf are all slices of numbers, or of what holds no slices, of a state.
func slicesOf(s *api.MillState) []reflect.Value {
	l := []reflect.Value{reflect.ValueOf(s.Line.Running), reflect.ValueOf(s.Line.Raised), reflect.ValueOf(s.Line.Rounds)}
	for _, o := range s.Orders {
		l = append(l, reflect.ValueOf(o.Schedule.Thicknesses))
	}
	for _, c := range s.Coils {
		l = append(l, reflect.ValueOf(c.Course.Lengths), reflect.ValueOf(c.Course.Areas), reflect.ValueOf(c.Readings))
		for _, x := range c.Course.Steps {
			l = append(l, reflect.ValueOf(x.Areas))
		}
	}
	return l
}

// TestR3SlicesOfAStateShareNothing overwrites one slice of a state after another, also
// behind its end, and wants that those after it stay as they are.
func TestR3SlicesOfAStateShareNothing(t *testing.T) {
	s := stateOf(t, examplePlant(), richLog(t))
	l := slicesOf(&s)
	var want []reflect.Value
	for _, x := range l {
		want = append(want, copied(x))
	}
	if len(l) < 15 {
		t.Error("too few slices", len(l))
	}
	for i := range l {
		for j := i; j < len(l); j++ {
			if !alike(l[j].Interface(), want[j].Interface()) {
				t.Error(i, j, l[j], want[j])
			}
		}
		overwrite(l[i])
	}
}

// TestR3SparesMemoryBehindSlices has slices with room behind their ends, into which
// nothing may be written.
func TestR3SparesMemoryBehindSlices(t *testing.T) {
	a := exampleArguments(t)
	x := entry(7, "x", "x")
	log, other := append(a.log, x, x, x), append(a.other, x, x, x)
	people, stands := append(a.plant.People, api.MillPerson{Name: "x"}, api.MillPerson{Name: "x"}), append(a.plant.Stands, "x", "x", "x")
	causes := append(a.search.Causes, api.TraceCause{Name: "x"}, api.TraceCause{Name: "x"})
	all := func() []any {
		return []any{copyOf(log), copyOf(other), copyOf(people), copyOf(stands), copyOf(causes)}
	}
	a.log, a.other, a.plant.People, a.plant.Stands = log[:len(a.log)], other[:len(a.other)], people[:len(a.plant.People)], stands[:len(a.plant.Stands)]
	a.search.Causes = causes[:len(a.search.Causes)]
	before := all()
	results(a)
	if !alike(before, all()) {
		t.Error("changed", before, all())
	}
}

func TestR4SameArgumentsSameResults(t *testing.T) {
	example := exampleArguments(t)
	for _, a := range append(oddArguments(t)[:400], example) {
		first := results(a)
		results(example)
		alikeResults(t, first, results(a))
	}
}

func TestR5NilIsEmpty(t *testing.T) {
	none, empty := exampleArguments(t), exampleArguments(t)
	none.log, none.other, none.search.Causes = nil, nil, nil
	empty.log, empty.other, empty.search.Causes = []api.MillEntry{}, []api.MillEntry{}, []api.TraceCause{}
	alikeResults(t, results(none), results(empty))
	wantFrom(t, empty, api.OK, "CheckLog", "Journal", "Merged", "StateOf", "StoppableIn", "CorrectionsOf")
	wantFrom(t, empty, api.ErrMissing, "SlabsFor", "ReportFor", "CausesFor", "Answer")
	none, empty = exampleArguments(t), exampleArguments(t)
	none.search.Causes, empty.search.Causes = nil, []api.TraceCause{}
	alikeResults(t, results(none), results(empty))
	wantFrom(t, empty, api.ErrNone, "CausesFor")
	none, empty = exampleArguments(t), exampleArguments(t)
	none.plant.Stands, empty.plant.Stands = nil, []string{}
	alikeResults(t, results(none), results(empty))
	wantFrom(t, empty, api.ErrShape, plantCalls...)
	none.plant.People, empty.plant.People = nil, []api.MillPerson{}
	alikeResults(t, results(none), results(empty))
	wantFrom(t, empty, api.ErrShape, plantCalls...)
}

// TestR9FirstArgumentFirst has errors in all arguments, and mends them from the
// first one on.
func TestR9FirstArgumentFirst(t *testing.T) {
	a, right := exampleArguments(t), exampleArguments(t)
	a.plant.People[2].Role = 4
	a.log[3].By, a.other[5].Text, a.further.At = "eve", "pause", -1
	a.order, a.stand, a.coil, a.search.Coil, a.request = "", "", "", "", "place "
	a.search.Causes[0].Step, a.after, a.journal = 7, -1, strings.Repeat("x", 60001)
	wantFrom(t, a, api.ErrKind, plantCalls...)
	wantFrom(t, a, api.ErrRange, "SumOf")
	a.plant = right.plant
	wantFrom(t, a, api.ErrMissing, logCalls...)
	wantFrom(t, a, api.ErrLarge, "Recovered")
	wantFrom(t, a, api.OK, "CheckPlant", "New")
	a.log = right.log
	wantFrom(t, a, api.ErrRange, "Appended")
	wantFrom(t, a, api.ErrSyntax, "Merged")
	wantFrom(t, a, api.ErrName, "SlabsFor", "StopsAfter", "ReportFor", "CausesFor", "Answer")
	wantFrom(t, a, api.OK, "CheckLog", "Journal", "StateOf", "StoppableIn", "CorrectionsOf")
	a.order, a.stand, a.coil, a.search.Coil, a.request = "o9", "f9", "c9", "c9", "report c9"
	wantFrom(t, a, api.ErrMissing, "SlabsFor", "StopsAfter", "ReportFor", "CausesFor", "Answer")
	a.search.Coil = "c1"
	wantFrom(t, a, api.ErrRange, "CausesFor")
	wantFrom(t, right, api.OK, append([]string{"SumOf"}, plantCalls...)...)
}
