package trace_test

import (
	"math"
	"reflect"
	"slices"
	"strings"
	"testing"

	"cobble/api"
	"cobble/trace"
)

// The tests of this file are those of DOC.md's section 'Rules', for all calls of
// the package.

// arguments are one value for each argument of the calls.
type arguments struct {
	course             api.TraceCourse
	steps, from, to    int
	first, next        api.TraceMap
	position           api.Frac
	reading            api.TraceReading
	size               int
	marks              api.TraceMarks
	rolls              []api.TraceRoll
	roll               api.TraceRoll
	causes             []api.TraceCause
	readings, reported []api.TraceReading
	search             api.TraceSearch
	text               string
}

func exampleArguments() arguments {
	first, second := reading(1, 1000, true), reading(1, 2000, true)
	return arguments{
		course: exampleCourse(), steps: 2, from: 0, to: 2, first: exampleMap(), next: cutMap(), position: whole(1250),
		reading: reading(1, 4500, false), size: 3000, marks: exampleMarks(), rolls: exampleRolls(), roll: roll("r3", 0, 400),
		causes: exampleCauses(), readings: []api.TraceReading{first}, reported: exampleReadings(),
		search: search([]api.TraceReading{first}, []api.TraceReading{first, second}), text: exampleText,
	}
}

// richArguments have sections, steps, knots, rolls, causes and readings that contradict one
// another.
func richArguments() arguments {
	a := exampleArguments()
	a.course = course(numbers(700, 300, 500), numbers(30, 60, 20), pass(10, 10, 10), cut(100, 4500), pass(5, 5, 4), cut(0, 5000))
	a.steps, a.from, a.to = 4, 1, 4
	a.first, a.next = bent(6, 0), bent(8, 5)
	a.reading, a.size, a.marks = reading(3, 777, true), 700, marks(1, 0, 100, 250, 300, 5000)
	a.rolls, a.roll = []api.TraceRoll{roll("a", 4, 50), roll("b", 3, 10), roll("c", 0, 1000), roll("d", 4, 50)}, roll("e", 2, 77)
	a.causes = []api.TraceCause{cause("a", 0, 100, 200, 150), cause("b", 1, 0, 10, 0), cause("c", 3, 500, 900, 1000), cause("d", 0, 0, 1500, 0)}
	a.readings = []api.TraceReading{reading(3, 777, true), reading(4, 777, false), reading(0, 100, true), reading(1, 2100, true), reading(0, 1499, false)}
	a.reported = a.readings
	a.search = search([]api.TraceReading{reading(3, 777, true), reading(0, 150, true)}, a.readings)
	a.text = "slab-1;1000*30,500*60,20*5;p 10,12,15;c 100 5000;p 9,9;c 10 400;p 8"
	return a
}

// results calls every function, and collects what each one returns; the last
// value is its error, if it returns one.
func results(a arguments) map[string][]any {
	l := map[string][]any{}
	add := func(name string, x ...any) { l[name] = x }
	addCourseResults(a, add)
	addMapResults(a, add)
	addRollResults(a, add)
	addCauseResults(a, add)
	return l
}

func addCourseResults(a arguments, add func(string, ...any)) {
	n, e := trace.CheckCourse(a.course)
	add("CheckCourse", n, e)
	s, e := trace.StripAfter(a.course, a.steps)
	add("StripAfter", s, e)
	f, e := trace.LengthAfter(a.course, a.steps)
	add("LengthAfter", f, e)
	f, e = trace.VolumeAfter(a.course, a.steps)
	add("VolumeAfter", f, e)
	f, e = trace.PlaceOf(a.course, a.reading, a.steps)
	add("PlaceOf", f, e)
	p, e := trace.PiecesOf(a.course, a.size)
	add("PiecesOf", p, e)
	r, e := trace.ReportOf(a.course, a.reported)
	add("ReportOf", r, e)
	add("FormatCourse", trace.FormatCourse(a.course))
	c, e := trace.ParseCourse(a.text)
	add("ParseCourse", c, e)
}

func addMapResults(a arguments, add func(string, ...any)) {
	m, e := trace.MapOf(a.course, a.from, a.to)
	add("MapOf", m, e)
	n, e := trace.CheckMap(a.first)
	add("CheckMap", n, e)
	f, e := trace.ValueAt(a.first, a.position)
	add("ValueAt", f, e)
	m, e = trace.Inverse(a.first)
	add("Inverse", m, e)
	m, e = trace.Composed(a.first, a.next)
	add("Composed", m, e)
}

func addRollResults(a arguments, add func(string, ...any)) {
	names, e := trace.RollsOf(a.course, a.marks, a.rolls)
	add("RollsOf", names, e)
	pair, e := trace.RollPair(a.course, a.marks, a.roll)
	add("RollPair", pair, e)
}

func addCauseResults(a arguments, add func(string, ...any)) {
	n, e := trace.CheckCauses(a.course, a.causes)
	add("CheckCauses", n, e)
	is, e := trace.Predicts(a.course, a.causes, a.reading)
	add("Predicts", is, e)
	n, e = trace.Contradiction(a.course, a.causes, a.readings)
	add("Contradiction", n, e)
	sets, e := trace.Explanations(a.course, a.causes, a.readings)
	add("Explanations", sets, e)
	set, e := trace.Contradicting(a.course, a.causes, a.readings)
	add("Contradicting", set, e)
	n, m, e := trace.NextReading(a.course, a.causes, a.search)
	add("NextReading", n, m, e)
}

// slicesIn are the arguments that hold slices.
func (a arguments) slicesIn() []any {
	return []any{a.course, a.first, a.next, a.marks, a.rolls, a.causes, a.readings, a.reported, a.search}
}

func (a arguments) copied() arguments {
	a.course, a.first, a.next, a.marks, a.rolls = copyOf(a.course), copyOf(a.first), copyOf(a.next), copyOf(a.marks), copyOf(a.rolls)
	a.causes, a.readings, a.reported, a.search = copyOf(a.causes), copyOf(a.readings), copyOf(a.reported), copyOf(a.search)
	return a
}

func alikeResults(t *testing.T, a, b map[string][]any) {
	t.Helper()
	for name, values := range a {
		for i, x := range values {
			if y := b[name][i]; !alike(x, y) {
				t.Errorf("%s: %v and %v", name, x, y)
			}
		}
	}
}

// overwrite changes every number and string that a value holds in slices, also behind
// their ends.
func overwrite(x reflect.Value) {
	switch x.Kind() {
	case reflect.Slice:
		all := x.Slice(0, x.Cap())
		for i := range all.Len() {
			overwrite(all.Index(i))
		}
	case reflect.Struct:
		for i := range x.NumField() {
			overwrite(x.Field(i))
		}
	case reflect.Int:
		if x.CanSet() {
			x.SetInt(12345)
		}
	case reflect.String:
		if x.CanSet() {
			x.SetString("overwritten")
		}
	}
}

// oddArguments are outside the limits in many ways.
func oddArguments() []arguments {
	odd := []int{math.MinInt, math.MinInt + 1, -1000000001, -1, 0, 1, 2, 3, 7, 100, 1000, 20000, 1000000, 1000000000, 1000000001, 1 << 62, math.MaxInt - 1, math.MaxInt}
	texts := []string{"", " ", ";", ";;", ",", "a;1*1", "a;1*1;p 1", "a;1*1;c 0 1", "a;1*1;p", "a;1*1;c", "a;*", "a;1*1;p -1", "\x00;1*1", "\xff \xfe;\xfd", "a;1*1;c 0", strings.Repeat("1 ", 1000), strings.Repeat("1;", 100000), "a;1*1;p " + strings.Repeat("9", 1000)}
	var l []arguments
	for i, n := range odd {
		for j, m := range odd {
			a := exampleArguments()
			a.course = course(numbers(n, m), numbers(m, n), pass(n, m), cut(n, m))
			a.first, a.next, a.position = mapOf(knot(frac(n, m), frac(m, n)), knot(frac(n, n), frac(m, m))), mapOf(wholeKnot(n, m)), frac(n, m)
			a.text = texts[(i+j)%len(texts)]
			b := exampleArguments()
			b.steps, b.from, b.to, b.position, b.size = n, n, m, frac(n, m), n
			b.reading, b.marks, b.roll = reading(1, n, true), marks(n, m), roll("a", 1, n)
			b.rolls, b.causes = []api.TraceRoll{roll("a", 0, n), roll("b", 1, m)}, []api.TraceCause{cause("a", 1, n, m, m)}
			b.readings, b.reported, b.search = []api.TraceReading{reading(1, n, true)}, []api.TraceReading{reading(n, m, true)}, search(nil, []api.TraceReading{reading(0, n, true)})
			c := exampleArguments()
			c.course.Steps[0].Areas[1], c.course.Steps[1].To = n, m
			c.first.Knots[1].Out, c.next.Knots[0].In, c.position = frac(n, m), frac(m, n), whole(m)
			c.reading, c.marks.Marks[1], c.marks.Tolerance, c.causes[1].Period = reading(n, m, true), n, m, n
			c.search.Candidates = []api.TraceReading{reading(n, m, true)}
			d := exampleArguments()
			d.course.Steps[0].From, d.course.Steps[1].Kind, d.first.Knots[2].In.Num, d.next.Knots[1].Out.Den = n, m, n, m
			d.roll, d.causes[0], d.readings, d.position = roll("a", n, m), cause("a", n, m, n, m), []api.TraceReading{reading(n, m, true)}, frac(m, 7)
			e := exampleArguments()
			e.steps, e.from, e.to, e.course.Steps[1].From, e.size = 1, 1, m, n, m
			l = append(l, a, b, c, d, e)
		}
	}
	return append(l, arguments{})
}

// TestR1ZeroBesideErrors covers R2, too: no call panics. (The calls that check courses,
// maps and causes return an index beside an error.)
func TestR1ZeroBesideErrors(t *testing.T) {
	indexed := []string{"CheckCourse", "CheckMap", "CheckCauses"}
	for _, a := range append(oddArguments(), richArguments()) {
		for name, values := range results(a) {
			e, ok := values[len(values)-1].(api.Errno)
			if !ok || e == api.OK || slices.Contains(indexed, name) {
				continue
			}
			for _, x := range values[:len(values)-1] {
				if !copied(reflect.ValueOf(x)).IsZero() {
					t.Errorf("%s: %v beside %v", name, x, e)
				}
			}
		}
	}
}

var (
	stepCalls    = []string{"StripAfter", "LengthAfter", "VolumeAfter"}
	markCalls    = []string{"RollsOf", "RollPair"}
	readingCalls = []string{"Contradiction", "Explanations", "Contradicting"}
	causeCalls   = slices.Concat([]string{"CheckCauses", "Predicts", "NextReading"}, readingCalls)
	courseCalls  = slices.Concat([]string{"CheckCourse", "PlaceOf", "PiecesOf", "ReportOf", "MapOf"}, stepCalls, markCalls, causeCalls)
	mapCalls     = []string{"CheckMap", "ValueAt", "Inverse", "Composed"}
)

// wantFrom wants an error of each one of some calls.
func wantFrom(t *testing.T, a arguments, e api.Errno, calls ...string) {
	t.Helper()
	l := results(a)
	for _, name := range calls {
		if f := l[name][len(l[name])-1]; f != e {
			t.Errorf("%s: %v in place of %v", name, f, e)
		}
	}
}

func TestR2LargeArgumentsEnd(t *testing.T) {
	const n = 300001
	a := exampleArguments()
	a.course.Lengths, a.course.Areas = make([]int, n), make([]int, n)
	a.first.Knots, a.text = make([]api.TraceKnot, n), "a;1*1"+strings.Repeat(";p 1", n)
	wantFrom(t, a, api.ErrLarge, slices.Concat(courseCalls, mapCalls, []string{"ParseCourse"})...)
	a.course.Areas = nil
	wantFrom(t, a, api.ErrShape, courseCalls...)
	a.course = exampleCourse()
	a.course.Steps = make([]api.TraceStep, n)
	wantFrom(t, a, api.ErrLarge, courseCalls...)
	a.course.Steps = []api.TraceStep{pass(make([]int, n)...)}
	wantFrom(t, a, api.ErrShape, courseCalls...)
	a.course.Steps[0].Kind = api.TraceCut
	wantFrom(t, a, api.ErrForm, courseCalls...)
	a.course.Slab = strings.Repeat("a", n)
	wantFrom(t, a, api.ErrName, courseCalls...)
	a = exampleArguments()
	a.next.Knots, a.marks.Marks, a.causes = make([]api.TraceKnot, n), make([]int, n), make([]api.TraceCause, n)
	a.reported = make([]api.TraceReading, n)
	wantFrom(t, a, api.ErrLarge, slices.Concat(markCalls, causeCalls, []string{"Composed", "ReportOf"})...)
	a = exampleArguments()
	a.rolls, a.readings, a.search.Candidates = make([]api.TraceRoll, n), make([]api.TraceReading, n), make([]api.TraceReading, n)
	wantFrom(t, a, api.ErrFull, "RollsOf")
	wantFrom(t, a, api.ErrLarge, append(readingCalls, "NextReading")...)
}

// TestR2LongestWays is the most that valid arguments ask for.
func TestR2LongestWays(t *testing.T) {
	a := exampleArguments()
	a.course = longest()
	a.steps, a.from, a.to, a.size = 10, 0, 10, 1000000
	a.first, a.next = bent(12, 0), bent(2, 5)
	a.reading, a.position = reading(10, 120000000, true), frac(1, math.MaxInt)
	a.marks, a.rolls, a.roll = marks(0), nil, roll("a", 0, 1)
	for i := range api.MaxTraceMarks {
		a.marks.Marks = append(a.marks.Marks, 6000000*i)
	}
	for i := range api.MaxTraceRolls {
		a.rolls = append(a.rolls, roll(string(rune('a'+i)), i%11, 1+i))
	}
	a.causes = nil
	for i := range api.MaxTraceCauses {
		a.causes = append(a.causes, cause(string(rune('a'+i)), 0, i, i, 1))
	}
	a.readings = nil
	for i := range api.MaxTraceReadings {
		a.readings = append(a.readings, reading(10, 120000000-1000*i, true))
	}
	a.reported, a.search = a.readings, search(a.readings, a.readings)
	usual := slices.DeleteFunc(slices.Clone(courseCalls), func(name string) bool {
		return slices.Contains([]string{"PiecesOf", "RollPair", "Contradiction", "Contradicting"}, name)
	})
	wantFrom(t, a, api.OK, append(usual, "CheckMap", "Inverse", "Composed")...)
	wantFrom(t, a, api.ErrFull, "PiecesOf")
	wantFrom(t, a, api.ErrLarge, "ValueAt")
	wantFrom(t, a, api.ErrNone, "RollPair", "Contradiction", "Contradicting")
	a.readings[9].At++
	wantFrom(t, a, api.ErrNone, "Explanations")
	wantFrom(t, a, api.OK, "Contradiction", "Contradicting")
}

func TestR3ArgumentsStayAsTheyAre(t *testing.T) {
	for _, a := range append(oddArguments(), exampleArguments(), richArguments()) {
		before := a.copied()
		results(a)
		if !reflect.DeepEqual(before, a.copied()) {
			t.Fatal("changed", before, a)
		}
	}
}

// TestR3NothingIsShared overwrites results, and then arguments, and compares what
// should have stayed.
func TestR3NothingIsShared(t *testing.T) {
	for _, a := range []arguments{exampleArguments(), richArguments()} {
		original := a.copied()
		first := results(a)
		want := map[string][]any{}
		for name, values := range first {
			for _, x := range values {
				want[name] = append(want[name], copied(reflect.ValueOf(x)).Interface())
			}
		}
		for _, values := range first {
			for _, x := range values {
				overwrite(reflect.ValueOf(x))
			}
		}
		if !reflect.DeepEqual(a.copied(), original) {
			t.Error("a result shares memory with an argument", a)
		}
		alikeResults(t, want, results(a))

		l := results(a)
		for _, x := range a.slicesIn() {
			overwrite(reflect.ValueOf(x))
		}
		alikeResults(t, want, l)
	}
}

// wantApart overwrites one slice of a result after another, also behind its end, and
// wants that those after it stay as they are.
func wantApart[T any](t *testing.T, l [][]T) {
	t.Helper()
	if len(l) < 2 {
		t.Error("too few slices", l)
	}
	want := copyOf(l)
	for i := range l {
		if !alike(l[i:], want[i:]) {
			t.Error(i, l)
		}
		overwrite(reflect.ValueOf(l[i]))
	}
}

func TestR3SlicesOfAResultShareNothing(t *testing.T) {
	c := mustParse(t, "a;1000*1,500*2;p 3,4;p 1,2;p 5,5")
	wantApart(t, [][]int{c.Lengths, c.Areas, c.Steps[0].Areas, c.Steps[1].Areas, c.Steps[2].Areas})
	l := []api.TraceCause{cause("a", 0, 0, 5, 0), cause("b", 0, 5, 9, 0), cause("c", 0, 0, 5, 0), cause("d", 0, 5, 9, 0)}
	sets, e := trace.Explanations(mustParse(t, "a;1000*1"), l, []api.TraceReading{reading(0, 1, true), reading(0, 8, true)})
	if e != api.OK {
		t.Fatal(e)
	}
	wantApart(t, sets)
}

// TestR3SparesMemoryBehindSlices has slices with room behind their ends, into which
// nothing may be written.
func TestR3SparesMemoryBehindSlices(t *testing.T) {
	for _, a := range []arguments{exampleArguments(), richArguments()} {
		lengths, areas, steps := append(a.course.Lengths, 7, 7, 7), append(a.course.Areas, 7, 7, 7), append(a.course.Steps, pass(7), pass(7))
		passed := append(a.course.Steps[0].Areas, 7, 7, 7)
		first, next := append(a.first.Knots, wholeKnot(7, 7), wholeKnot(7, 7)), append(a.next.Knots, wholeKnot(7, 7), wholeKnot(7, 7))
		positions, rolls, causes := append(a.marks.Marks, 7, 7, 7), append(a.rolls, roll("x", 7, 7)), append(a.causes, cause("x", 7, 7, 7, 7))
		readings, candidates := append(a.readings, reading(7, 7, true), reading(7, 7, true)), append(a.search.Candidates, reading(7, 7, true))
		all := func() []any {
			return []any{copyOf(lengths), copyOf(areas), copyOf(steps), copyOf(passed), copyOf(first), copyOf(next), copyOf(positions), copyOf(rolls), copyOf(causes), copyOf(readings), copyOf(candidates)}
		}
		steps[0].Areas = passed[:len(a.course.Steps[0].Areas)]
		a.course = course(lengths[:len(a.course.Lengths)], areas[:len(a.course.Areas)], steps[:len(a.course.Steps)]...)
		a.first, a.next = mapOf(first[:len(a.first.Knots)]...), mapOf(next[:len(a.next.Knots)]...)
		a.marks.Marks, a.rolls, a.causes = positions[:len(a.marks.Marks)], rolls[:len(a.rolls)], causes[:len(a.causes)]
		a.readings, a.search.Candidates = readings[:len(a.readings)], candidates[:len(a.search.Candidates)]
		a.reported, a.search.Readings = a.readings, a.readings
		before := all()
		results(a)
		if !alike(before, all()) {
			t.Error("changed", before, all())
		}
	}
}

func TestR4SameArgumentsSameResults(t *testing.T) {
	for _, a := range append(oddArguments(), exampleArguments(), richArguments()) {
		first := results(a)
		results(exampleArguments())
		alikeResults(t, first, results(a))
	}
}

func TestR5NilIsEmpty(t *testing.T) {
	none, empty := exampleArguments(), exampleArguments()
	none.course.Lengths, none.course.Areas, none.first, none.next = nil, nil, api.TraceMap{}, api.TraceMap{}
	empty.course.Lengths, empty.course.Areas, empty.first, empty.next = []int{}, []int{}, mapOf([]api.TraceKnot{}...), mapOf([]api.TraceKnot{}...)
	alikeResults(t, results(none), results(empty))
	wantFrom(t, empty, api.ErrShape, slices.Concat(courseCalls, mapCalls)...)
	none, empty = exampleArguments(), exampleArguments()
	none.marks.Marks, none.rolls, none.causes, none.readings, none.reported, none.search = nil, nil, nil, nil, nil, api.TraceSearch{}
	empty.marks.Marks, empty.rolls, empty.causes, empty.readings, empty.reported, empty.search = []int{}, []api.TraceRoll{}, []api.TraceCause{}, []api.TraceReading{}, []api.TraceReading{}, search([]api.TraceReading{}, []api.TraceReading{})
	alikeResults(t, results(none), results(empty))
	wantFrom(t, empty, api.OK, "RollsOf", "CheckCauses", "Predicts", "Explanations", "ReportOf")
	wantFrom(t, empty, api.ErrShape, "NextReading")
	none, empty = exampleArguments(), exampleArguments()
	none.steps, none.course.Steps, none.search.Readings = 0, nil, nil
	empty.steps, empty.course.Steps, empty.search.Readings = 0, []api.TraceStep{}, []api.TraceReading{}
	alikeResults(t, results(none), results(empty))
	wantFrom(t, empty, api.OK, append(stepCalls, "CheckCourse")...)
	none, empty = exampleArguments(), exampleArguments()
	none.course.Steps[0].Areas, none.course.Steps[1].Areas = nil, nil
	empty.course.Steps[0].Areas, empty.course.Steps[1].Areas = []int{}, []int{}
	alikeResults(t, results(none), results(empty))
	wantFrom(t, empty, api.ErrShape, courseCalls...)
}

// TestR9FirstArgumentFirst has errors in all arguments, and mends them from the
// first one on.
func TestR9FirstArgumentFirst(t *testing.T) {
	a := exampleArguments()
	a.course.Steps[1].Kind, a.steps, a.from, a.to, a.size = 2, 3, 3, 3, 0
	a.first.Knots[1].In, a.next.Knots[0].Out, a.position = frac(2, 4), frac(most+1, 1), whole(1501)
	a.reading, a.marks.Marks[1], a.rolls[0].Name, a.roll.Name = reading(1, 6001, true), 100, "1", "1"
	a.causes[1].Period, a.readings[0].Step, a.reported[1].Step, a.search = 200, 3, -1, search([]api.TraceReading{reading(0, 1501, true)}, nil)
	wantFrom(t, a, api.ErrKind, courseCalls...)
	wantFrom(t, a, api.ErrForm, mapCalls...)
	a.course, a.first = exampleCourse(), exampleMap()
	wantFrom(t, a, api.ErrRange, append(stepCalls, "MapOf", "PiecesOf", "ValueAt", "Composed", "ReportOf")...)
	wantFrom(t, a, api.ErrMissing, "PlaceOf")
	wantFrom(t, a, api.ErrOrder, markCalls...)
	wantFrom(t, a, api.ErrClash, causeCalls...)
	a.from, a.reading.At, a.next, a.position, a.marks, a.causes = 2, 6000, cutMap(), frac(2, 4), exampleMarks(), exampleCauses()
	wantFrom(t, a, api.ErrForm, "ValueAt")
	wantFrom(t, a, api.ErrName, markCalls...)
	wantFrom(t, a, api.ErrRange, append(readingCalls, "PlaceOf", "MapOf")...)
	wantFrom(t, a, api.ErrMissing, "NextReading")
	a.to, a.search.Readings = 1, nil
	wantFrom(t, a, api.ErrOrder, "MapOf")
	wantFrom(t, a, api.ErrShape, "NextReading")
	wantFrom(t, a, api.OK, "CheckCourse", "CheckMap", "Inverse", "Composed", "CheckCauses", "Predicts")
}
