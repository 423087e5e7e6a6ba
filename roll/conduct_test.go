package roll_test

import (
	"math"
	"reflect"
	"slices"
	"strings"
	"testing"

	"cobble/api"
	"cobble/roll"
)

// The tests of this file are those of DOC.md's section 'Rules', for all calls of
// the package.

// arguments are one value for each argument of the calls.
type arguments struct {
	record         []int
	drum           api.RollDrum
	sample         int
	wave           api.Gauss
	count          int
	harmonics      [4]api.Gauss
	pair           [2]api.RollDrum
	fit            api.RollFit
	waves          [2]api.Gauss
	marks          api.RollMarks
	circumference  int
	circumferences []int
	text           string
}

func exampleArguments() arguments {
	return arguments{
		record: bothWaves(), drum: exampleDrum(), sample: 5, wave: gauss(3, 5), count: 6,
		harmonics: [4]api.Gauss{{}, gauss(6, 10), {}, gauss(6, -10)},
		pair:      examplePair(), fit: exampleFit(), waves: [2]api.Gauss{gauss(3, 5), {}},
		marks: exampleMarks(), circumference: 625, circumferences: numbers(625, 1250, 2500),
		text: exampleText,
	}
}

// contradictedArguments have marks that no phase explains, and rolls without a fit.
func contradictedArguments() arguments {
	a := exampleArguments()
	a.circumference, a.pair[1] = 2500, a.pair[0]
	return a
}

// results calls every function, and collects what each one returns; the last
// value is its error, if it returns one.
func results(a arguments) map[string][]any {
	l := map[string][]any{}
	add := func(name string, x ...any) { l[name] = x }
	addDrumResults(a, add)
	addRecordResults(a, add)
	addFitResults(a, add)
	addMarkResults(a, add)
	add("FormatDrum", roll.FormatDrum(a.drum))
	d, e := roll.ParseDrum(a.text)
	add("ParseDrum", d, e)
	return l
}

func addDrumResults(a arguments, add func(string, ...any)) {
	add("CheckRecord", roll.CheckRecord(a.record))
	add("CheckDrum", roll.CheckDrum(a.drum))
	q, e := roll.QuarterAt(a.drum, a.sample)
	add("QuarterAt", q, e)
	l, e := roll.WaveOf(a.drum, a.wave, a.count)
	add("WaveOf", l, e)
}

func addRecordResults(a arguments, add func(string, ...any)) {
	g, e := roll.SumOf(a.record, a.drum)
	add("SumOf", g, e)
	x, e := roll.AmplitudeOf(a.record, a.drum)
	add("AmplitudeOf", x, e)
	x, e = roll.SteadyOf(a.record, a.drum)
	add("SteadyOf", x, e)
	h, e := roll.HarmonicsOf(a.record, a.drum)
	add("HarmonicsOf", h, e)
	s, e := roll.QuartersOf(a.harmonics)
	add("QuartersOf", s, e)
	g, e = roll.NearestOf(a.record, a.drum)
	add("NearestOf", g, e)
	l, e := roll.Cancelled(a.record, a.drum, a.wave)
	add("Cancelled", l, e)
	l, e = roll.Run(a.record, a.drum)
	add("Run", l, e)
}

func addFitResults(a arguments, add func(string, ...any)) {
	f, e := roll.FitOf(a.record, a.pair)
	add("FitOf", f, e)
	i, e := roll.CheckFit(a.record, a.pair, a.fit)
	add("CheckFit", i, e)
	n, e := roll.ErrorOf(a.record, a.pair, a.waves)
	add("ErrorOf", n, e)
}

func addMarkResults(a arguments, add func(string, ...any)) {
	i, e := roll.CheckMarks(a.marks)
	add("CheckMarks", i, e)
	r, e := roll.PhaseOf(a.marks, a.circumference)
	add("PhaseOf", r, e)
	l, e := roll.CausesOf(a.marks, a.circumferences)
	add("CausesOf", l, e)
	l, e = roll.ExpectedOf(a.marks, a.circumference)
	add("ExpectedOf", l, e)
	l, e = roll.ContradictingIn(a.marks, a.circumference)
	add("ContradictingIn", l, e)
}

// slicesIn are the arguments that hold slices.
func (a arguments) slicesIn() []any {
	return []any{a.record, a.marks, a.circumferences}
}

func (a arguments) copied() arguments {
	a.record, a.marks, a.circumferences = copyOf(a.record), copyOf(a.marks), copyOf(a.circumferences)
	return a
}

func alikeResults(t *testing.T, a, b map[string][]any) {
	t.Helper()
	for name, values := range a {
		for i, x := range values {
			if y := b[name][i]; !alike(x, y) {
				t.Errorf("%s: %v and %v", name, x, y)
			}
		}
	}
}

// overwrite changes every number that a value holds in slices, also behind their
// ends.
func overwrite(x reflect.Value) {
	switch x.Kind() {
	case reflect.Slice:
		all := x.Slice(0, x.Cap())
		for i := range all.Len() {
			overwrite(all.Index(i))
		}
	case reflect.Struct:
		for i := range x.NumField() {
			overwrite(x.Field(i))
		}
	case reflect.Int:
		if x.CanSet() {
			x.SetInt(12345)
		}
	}
}

// oddArguments are outside the limits in many ways.
func oddArguments() []arguments {
	odd := []int{math.MinInt, math.MinInt + 1, -1, 0, 1, 2, 3, 4, 8, 64, 239, 2500, 10000, 1000000, math.MaxInt - 1, math.MaxInt}
	texts := []string{"", " ", "  ", "a", "a 4", "a 4 0", "a 4 4", "a 5 0", "9 4 0", "a 04 0", "\x00 4 0", "\xff \xfe \xfd", "a -4 0", strings.Repeat("a ", 1000), "a 4 " + strings.Repeat("9", 1000)}
	var l []arguments
	for i, n := range odd {
		for j, m := range odd {
			a := exampleArguments()
			a.record, a.drum, a.sample, a.wave, a.count = numbers(n, m, m, n), drum(n, m), n, gauss(m, n), m
			a.harmonics, a.pair, a.fit, a.waves = [4]api.Gauss{gauss(n, m), gauss(m, n)}, pair(drum(m, n), drum(n, m)), fit(n, m, n, m, n), [2]api.Gauss{gauss(n, 0), gauss(0, m)}
			a.marks, a.circumference, a.circumferences, a.text = marks(n, m, n), m, numbers(n, m), texts[(i+j)%len(texts)]
			b := exampleArguments()
			b.sample, b.wave, b.count, b.harmonics = m, gauss(n, m), n, [4]api.Gauss{gauss(m, 0), {}, gauss(n, 0)}
			b.fit, b.waves, b.circumference, b.circumferences = fit(m, n, n, n, n), [2]api.Gauss{gauss(m, n), gauss(n, m)}, n, numbers(m, n)
			c := exampleArguments()
			c.record, c.pair[1], c.fit.Den, c.fit.Parts[j%4] = numbers(n), drum(8, m), m, n
			c.marks, c.circumference = marks(m, n), n
			d := exampleArguments()
			d.drum, d.pair[0], d.marks.Tolerance = drum(4, n), drum(64, m), m
			d.marks.Positions[1], d.marks.Positions[2] = n, m
			l = append(l, a, b, c, d)
		}
	}
	return append(l, arguments{})
}

// TestR1ZeroBesideErrors covers R2, too: no call panics. (The calls that check a
// fit and marks return an index beside an error.)
func TestR1ZeroBesideErrors(t *testing.T) {
	indexed := []string{"CheckFit", "CheckMarks"}
	for _, a := range append(oddArguments(), contradictedArguments()) {
		for name, values := range results(a) {
			e, ok := values[len(values)-1].(api.Errno)
			if !ok || e == api.OK || slices.Contains(indexed, name) {
				continue
			}
			for _, x := range values[:len(values)-1] {
				if !copied(reflect.ValueOf(x)).IsZero() {
					t.Errorf("%s: %v beside %v", name, x, e)
				}
			}
		}
	}
}

var (
	recordCalls = []string{"SumOf", "AmplitudeOf", "SteadyOf", "HarmonicsOf", "NearestOf", "Cancelled", "Run"}
	turnCalls   = []string{"SumOf", "AmplitudeOf", "SteadyOf", "HarmonicsOf", "NearestOf", "Run"}
	drumCalls   = []string{"CheckDrum", "QuarterAt", "WaveOf"}
	fitCalls    = []string{"FitOf", "CheckFit", "ErrorOf"}
	markCalls   = []string{"CheckMarks", "PhaseOf", "CausesOf", "ExpectedOf", "ContradictingIn"}
	roundCalls  = []string{"PhaseOf", "CausesOf", "ExpectedOf", "ContradictingIn"}
)

// wantFrom wants an error of each one of some calls.
func wantFrom(t *testing.T, a arguments, e api.Errno, calls ...string) {
	t.Helper()
	l := results(a)
	for _, name := range calls {
		if f := l[name][len(l[name])-1]; f != e {
			t.Errorf("%s: %v in place of %v", name, f, e)
		}
	}
}

func TestR2LargeArgumentsEnd(t *testing.T) {
	const n = 300000
	a := exampleArguments()
	a.record, a.marks.Positions, a.drum.Name = make([]int, n), make([]int, n), strings.Repeat("a", n)
	a.text = strings.Repeat("a ", n)
	wantFrom(t, a, api.ErrLarge, slices.Concat(recordCalls, fitCalls, markCalls, []string{"CheckRecord"})...)
	wantFrom(t, a, api.ErrName, drumCalls...)
	wantFrom(t, a, api.ErrSyntax, "ParseDrum")
	a = exampleArguments()
	a.circumferences = make([]int, n)
	wantFrom(t, a, api.ErrLarge, "CausesOf")
}

// TestR2LongestWays is the most that valid arguments ask for.
func TestR2LongestWays(t *testing.T) {
	a := exampleArguments()
	a.record, a.drum, a.count = slices.Repeat(numbers(1000000, -1000000), 120), drum(64, 63), 240
	a.pair = pair(drum(64, 63), drum(60, 59))
	a.marks, a.circumference, a.circumferences = marks(0, slices.Concat(counted(29), numbers(1000000))...), 1, slices.Repeat(numbers(1), 20)
	wantFrom(t, a, api.OK, slices.Concat(recordCalls, drumCalls, []string{"FitOf", "ErrorOf", "PhaseOf", "CausesOf", "ExpectedOf"})...)
	wantFrom(t, a, api.ErrNone, "ContradictingIn")
}

func TestR3ArgumentsStayAsTheyAre(t *testing.T) {
	for _, a := range append(oddArguments(), exampleArguments(), contradictedArguments()) {
		before := a.copied()
		results(a)
		if !reflect.DeepEqual(before, a.copied()) {
			t.Fatal("changed", before, a)
		}
	}
}

// TestR3NothingIsShared overwrites results, and then arguments, and compares what
// should have stayed.
func TestR3NothingIsShared(t *testing.T) {
	still, whole := exampleArguments(), exampleArguments()
	still.wave = gauss(0, 0)
	whole.drum = drum(8, 0) // a run of one turn is the record
	for _, a := range []arguments{exampleArguments(), contradictedArguments(), still, whole} {
		original := a.copied()
		first := results(a)
		want := map[string][]any{}
		for name, values := range first {
			for _, x := range values {
				want[name] = append(want[name], copied(reflect.ValueOf(x)).Interface())
			}
		}
		for _, values := range first {
			for _, x := range values {
				overwrite(reflect.ValueOf(x))
			}
		}
		if !reflect.DeepEqual(a.copied(), original) {
			t.Error("a result shares memory with an argument", a)
		}
		alikeResults(t, want, results(a))

		l := results(a)
		for _, x := range a.slicesIn() {
			overwrite(reflect.ValueOf(x))
		}
		alikeResults(t, want, l)
	}
}

// TestR3SparesMemoryBehindSlices has slices with room behind their ends, into which
// nothing may be written.
func TestR3SparesMemoryBehindSlices(t *testing.T) {
	a := exampleArguments()
	record := append(slices.Clone(a.record), 7, 7, 7)
	positions := append(slices.Clone(a.marks.Positions), 7, 7, 7)
	circumferences := append(slices.Clone(a.circumferences), 7, 7, 7)
	all := []any{copyOf(record), copyOf(positions), copyOf(circumferences)}
	a.record, a.marks.Positions, a.circumferences = record[:8], positions[:3], circumferences[:3]
	for _, d := range []api.RollDrum{a.drum, drum(8, 0)} {
		a.drum = d
		results(a)
	}
	if !alike(all, []any{copyOf(record), copyOf(positions), copyOf(circumferences)}) {
		t.Error("changed", record, positions, circumferences)
	}
}

func TestR4SameArgumentsSameResults(t *testing.T) {
	for _, a := range append(oddArguments(), exampleArguments(), contradictedArguments()) {
		first := results(a)
		results(exampleArguments())
		alikeResults(t, first, results(a))
	}
}

func TestR5NilIsEmpty(t *testing.T) {
	none, empty := exampleArguments(), exampleArguments()
	none.record, none.marks.Positions = nil, nil
	empty.record, empty.marks.Positions = []int{}, []int{}
	alikeResults(t, results(none), results(empty))
	wantFrom(t, empty, api.ErrShape, slices.Concat(recordCalls, fitCalls, markCalls)...)
	none, empty = exampleArguments(), exampleArguments()
	none.circumferences, empty.circumferences = nil, []int{}
	alikeResults(t, results(none), results(empty))
	wantFrom(t, empty, api.OK, "CausesOf")
}

// TestR9FirstArgumentFirst has errors in all arguments, and mends them from the
// first one on.
func TestR9FirstArgumentFirst(t *testing.T) {
	a := exampleArguments()
	a.record, a.drum, a.sample, a.wave, a.count = numbers(1000001), drum(6, 0), 240, gauss(1000001, 0), 0
	a.pair, a.fit, a.waves = pair(named("9"), drum(7, 0)), fit(0, 0, 0, 0, 0), [2]api.Gauss{gauss(1000001, 0), {}}
	a.marks.Positions[1], a.circumference, a.circumferences = 100, 0, make([]int, 21)
	wantFrom(t, a, api.ErrRange, slices.Concat(recordCalls, fitCalls)...)
	wantFrom(t, a, api.ErrForm, drumCalls...)
	wantFrom(t, a, api.ErrOrder, markCalls...)
	a.record, a.marks = numbers(1, 2, 3), exampleMarks()
	wantFrom(t, a, api.ErrForm, recordCalls...)
	wantFrom(t, a, api.ErrName, fitCalls...)
	wantFrom(t, a, api.ErrRange, "PhaseOf", "ExpectedOf", "ContradictingIn")
	wantFrom(t, a, api.ErrLarge, "CausesOf")
	a.drum, a.pair[0].Name, a.circumference, a.circumferences = exampleDrum(), "a", 8, numbers(8)
	wantFrom(t, a, api.ErrShape, turnCalls...)
	wantFrom(t, a, api.ErrRange, "Cancelled", "QuarterAt", "WaveOf")
	wantFrom(t, a, api.ErrForm, fitCalls...)
	wantFrom(t, a, api.ErrBreak, roundCalls...)
	a.wave, a.pair[1] = gauss(1000000, 0), drum(8, 0)
	wantFrom(t, a, api.ErrRange, "WaveOf", "CheckFit", "ErrorOf")
	wantFrom(t, a, api.ErrNone, "FitOf")
	wantFrom(t, a, api.OK, "CheckRecord", "CheckDrum", "Cancelled", "CheckMarks")
}
