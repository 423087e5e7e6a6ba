package model_test

import (
	"math"
	"reflect"
	"slices"
	"strings"
	"testing"

	"cobble/api"
	"cobble/model"
)

// The tests of this file are those of DOC.md's section 'Rules', for all calls of
// the package.

// arguments are one value for each argument of the calls.
type arguments struct {
	rules               api.ModelRules
	correction          api.ModelCorrection
	x, toward, steps    int
	over                api.Range
	coil                api.ModelCoil
	coils               []api.ModelCoil
	name                string
	law                 api.ModelLaw
	at                  int
	point               api.ModelPoint
	version, reel, text string
}

func exampleArguments() arguments {
	return arguments{
		rules: exampleRules(), correction: correction(7, 2), x: 8500, toward: 4, steps: 1, over: ends(8500, 9500),
		coil: firstCoil(), coils: coils(firstCoil(), secondCoil()), name: "c1",
		law: exampleLaw(), at: 30, point: point(frac(20, 1), frac(4, 1)),
		version: "2 3", reel: "c1 9000@120 8000@260", text: exampleText,
	}
}

// results calls every function, and collects what each one returns; the last
// value is its error, if it returns one.
func results(a arguments) map[string][]any {
	l := map[string][]any{}
	add := func(name string, x ...any) { l[name] = x }
	addTableResults(a, add)
	addLearningResults(a, add)
	addLawResults(a, add)
	addTextResults(a, add)
	return l
}

func addTableResults(a arguments, add func(string, ...any)) {
	i, e := model.CheckTable(a.rules.Table)
	add("CheckTable", i, e)
	i, e = model.ValueAt(a.rules.Table, a.x)
	add("ValueAt", i, e)
	r, e := model.RangeOver(a.rules.Table, a.over)
	add("RangeOver", r, e)
	i, e = model.CheckRules(a.rules)
	add("CheckRules", i, e)
	f, e := model.GainOf(a.rules, a.correction)
	add("GainOf", f, e)
	f, e = model.ForceAt(a.rules, a.correction, a.x)
	add("ForceAt", f, e)
	i, e = model.CheckCoil(a.rules, a.coil)
	add("CheckCoil", i, e)
	f, e = model.LossOf(a.rules, a.correction, a.coil)
	add("LossOf", f, e)
}

func addLearningResults(a arguments, add func(string, ...any)) {
	c, e := model.Learned(a.rules, a.correction, a.coil)
	add("Learned", c, e)
	c, e = model.BestFor(a.rules, a.coil)
	add("BestFor", c, e)
	l, e := model.HistoryOf(a.rules, a.correction, a.coils)
	add("HistoryOf", l, e)
	names, e := model.MadeBy(a.rules, a.correction, a.coils)
	add("MadeBy", names, e)
	c, e = model.Without(a.rules, a.correction, a.coils, a.name)
	add("Without", c, e)
	c, e = model.Forgotten(a.rules, a.correction, a.toward, a.steps)
	add("Forgotten", c, e)
}

func addLawResults(a arguments, add func(string, ...any)) {
	i, e := model.CheckLaw(a.law)
	add("CheckLaw", i, e)
	s, e := model.PredictionAt(a.law, a.at)
	add("PredictionAt", s, e)
	both, e := model.ParametersOf(a.law)
	add("ParametersOf", both, e)
	p, e := model.PointOf(a.law)
	add("PointOf", p, e)
	i, e = model.CheckPoint(a.law, a.point)
	add("CheckPoint", i, e)
	set, e := model.Contradicting(a.law)
	add("Contradicting", set, e)
}

func addTextResults(a arguments, add func(string, ...any)) {
	add("FormatCorrection", model.FormatCorrection(a.correction))
	c, e := model.ParseCorrection(a.version)
	add("ParseCorrection", c, e)
	add("FormatCoil", model.FormatCoil(a.coil))
	coil, e := model.ParseCoil(a.reel)
	add("ParseCoil", coil, e)
	add("FormatRules", model.FormatRules(a.rules))
	r, e := model.ParseRules(a.text)
	add("ParseRules", r, e)
}

// copied is a value that shares no memory with x, and in which empty slices are
// nil ones.
func copied(x reflect.Value) reflect.Value {
	y := reflect.New(x.Type()).Elem()
	switch x.Kind() {
	case reflect.Slice:
		for i := range x.Len() {
			y = reflect.Append(y, copied(x.Index(i)))
		}
	case reflect.Struct:
		for i := range x.NumField() {
			if y.Field(i).CanSet() {
				y.Field(i).Set(copied(x.Field(i)))
			}
		}
	default:
		y.Set(x)
	}
	return y
}

func copyOf[T any](x T) T {
	return copied(reflect.ValueOf(x)).Interface().(T)
}

func (a arguments) copied() arguments {
	a.rules, a.coil, a.coils, a.law = copyOf(a.rules), copyOf(a.coil), copyOf(a.coils), copyOf(a.law)
	return a
}

func alike(a, b any) bool {
	return reflect.DeepEqual(copied(reflect.ValueOf(a)).Interface(), copied(reflect.ValueOf(b)).Interface())
}

func isZero(x any) bool {
	return copied(reflect.ValueOf(x)).IsZero()
}

func alikeResults(t *testing.T, a, b map[string][]any) {
	t.Helper()
	for name, values := range a {
		for i, x := range values {
			if y := b[name][i]; !alike(x, y) {
				t.Errorf("%s: %v and %v", name, x, y)
			}
		}
	}
}

// overwrite changes every number and string that a value holds in slices, also
// behind their ends.
func overwrite(x reflect.Value) {
	switch x.Kind() {
	case reflect.Slice:
		all := x.Slice(0, x.Cap())
		for i := range all.Len() {
			overwrite(all.Index(i))
		}
	case reflect.Struct:
		for i := range x.NumField() {
			overwrite(x.Field(i))
		}
	case reflect.Int:
		if x.CanSet() {
			x.SetInt(12345)
		}
	case reflect.String:
		if x.CanSet() {
			x.SetString("overwritten")
		}
	}
}

// oddArguments are outside the limits in many ways.
func oddArguments() []arguments {
	numbers := []int{math.MinInt, math.MinInt + 1, -1, 0, 1, 2, 4, 100, 900, 10000, 20000, 1000000, 1000000000, math.MaxInt - 1, math.MaxInt}
	texts := []string{"", " ", "x", "1 x", "x 1", "x 1@1 ", "1/1 1/1 1 1@1", "1/0 0/0 1 1@1", "\x00", "\xff\xfe", "@", "/ / /", strings.Repeat("1 ", 1000), "a " + strings.Repeat("9", 1000)}
	var l []arguments
	for i, n := range numbers {
		for j, m := range numbers {
			a := exampleArguments()
			a.rules = api.ModelRules{Table: knots(n, m), Lowest: frac(n, m), Step: frac(m, n), Steps: n}
			a.correction, a.coil, a.coils = correction(n, m), coil("c", n, m), coils(coil("a", n, m), coil("a", m, n))
			a.law, a.point = lawOf(ends(n, m), ends(m, n), evidence(n, m, n)), point(frac(n, m), frac(m, n))
			a.version, a.reel, a.text, a.name = texts[(i+j)%len(texts)], texts[(i+2*j)%len(texts)], texts[(i+3*j)%len(texts)], texts[j%len(texts)]
			b := exampleArguments()
			b.x, b.toward, b.steps, b.over, b.at = n, n, m, ends(n, m), m
			b.correction = correction(n, m)
			b.point = point(frac(n, m), frac(4, 1))
			c := exampleArguments()
			c.correction, c.coil.Readings[1], c.coils[1].Readings = correction(n, 0), api.ModelReading{X: n, Force: m}, nil
			c.law.Evidence[1], c.point = evidence(n, m, m), point(frac(4, 1), frac(n, m))
			d := exampleArguments()
			d.rules.Table[2], d.rules.Steps, d.law.Constant = api.ModelKnot{X: n, Value: m}, max(0, m), ends(n, m)
			l = append(l, a, b, c, d)
		}
	}
	return append(l, arguments{})
}

// TestR1ZeroBesideErrors covers R2, too: no call panics. (The calls that check a
// table, rules, a coil, a law and a point return an index beside an error.)
func TestR1ZeroBesideErrors(t *testing.T) {
	indexed := []string{"CheckTable", "CheckRules", "CheckCoil", "CheckLaw", "CheckPoint"}
	for _, a := range oddArguments() {
		for name, values := range results(a) {
			e, ok := values[len(values)-1].(api.Errno)
			if !ok || e == api.OK || slices.Contains(indexed, name) {
				continue
			}
			for _, x := range values[:len(values)-1] {
				if !isZero(x) {
					t.Errorf("%s: %v beside %v", name, x, e)
				}
			}
		}
	}
}

var (
	tableCalls   = []string{"CheckTable", "ValueAt", "RangeOver"}
	rulesCalls   = []string{"CheckRules", "GainOf", "ForceAt", "CheckCoil", "LossOf", "Learned", "BestFor", "HistoryOf", "MadeBy", "Without", "Forgotten"}
	coilCalls    = []string{"CheckCoil", "LossOf", "Learned", "BestFor"}
	historyNames = []string{"HistoryOf", "MadeBy", "Without"}
	lawCalls     = []string{"CheckLaw", "PredictionAt", "ParametersOf", "PointOf", "CheckPoint", "Contradicting"}
)

// wantFrom wants an error of each one of some calls.
func wantFrom(t *testing.T, a arguments, e api.Errno, calls ...string) {
	t.Helper()
	l := results(a)
	for _, name := range calls {
		if f := l[name][len(l[name])-1]; f != e {
			t.Errorf("%s: %v in place of %v", name, f, e)
		}
	}
}

func TestR2LargeArgumentsEnd(t *testing.T) {
	const n = 300000
	a := exampleArguments()
	a.rules.Table = make([]api.ModelKnot, n)
	wantFrom(t, a, api.ErrLarge, slices.Concat(tableCalls, rulesCalls)...)
	a = exampleArguments()
	a.coil.Readings, a.coils, a.law.Evidence = make([]api.ModelReading, n), make([]api.ModelCoil, n), make([]api.ModelEvidence, n)
	wantFrom(t, a, api.ErrLarge, slices.Concat(coilCalls, historyNames, lawCalls)...)
}

// TestR2LongestWays is the most that valid arguments ask for.
func TestR2LongestWays(t *testing.T) {
	a := exampleArguments()
	a.rules = steadyRules(100000, 900, 900, 900)
	a.coil.Readings = slices.Repeat([]api.ModelReading{{X: 20000, Force: 100000}}, 12)
	a.coils = nil
	for i := range 12 {
		a.coils = append(a.coils, a.coil)
		a.coils[i].Name = "c" + string(rune('a'+i))
	}
	a.name, a.law.Evidence = "cl", nil
	for at := range 10 {
		a.law.Evidence = append(a.law.Evidence, evidence(90+at, -10000+at*at, 10000-at*at))
	}
	wantFrom(t, a, api.OK, slices.Concat([]string{"BestFor", "PredictionAt", "ParametersOf", "PointOf"}, historyNames)...)
	wantFrom(t, a, api.ErrNone, "Contradicting")
}

func TestR3ArgumentsStayAsTheyAre(t *testing.T) {
	for _, a := range append(oddArguments(), exampleArguments()) {
		before := a.copied()
		results(a)
		if !reflect.DeepEqual(before, a.copied()) {
			t.Fatal("changed", before, a)
		}
	}
}

// TestR3NothingIsShared overwrites results, and then arguments, and compares what
// should have stayed.
func TestR3NothingIsShared(t *testing.T) {
	clash := exampleArguments()
	clash.law = clashingLaw()
	for _, a := range []arguments{exampleArguments(), clash} {
		original := a.copied()
		first := results(a)
		want := map[string][]any{}
		for name, values := range first {
			for _, x := range values {
				want[name] = append(want[name], copied(reflect.ValueOf(x)).Interface())
			}
		}
		for _, values := range first {
			for _, x := range values {
				overwrite(reflect.ValueOf(x))
			}
		}
		if !reflect.DeepEqual(a.copied(), original) {
			t.Error("a result shares memory with an argument", a)
		}
		alikeResults(t, want, results(a))

		l := results(a)
		for _, x := range []any{a.rules, a.coil, a.coils, a.law} {
			overwrite(reflect.ValueOf(x))
		}
		alikeResults(t, want, l)
	}
}

// TestR3SparesMemoryBehindCoils has a slice with room behind its end, into which
// nothing may be written.
func TestR3SparesMemoryBehindCoils(t *testing.T) {
	a := exampleArguments()
	room := append(slices.Clone(a.coils), coil("c3", 1, 1), coil("c4", 2, 2))
	want := copyOf(room)
	a.coils = room[:2]
	table := append(slices.Clone(a.rules.Table), api.ModelKnot{X: 5, Value: 5})
	a.rules.Table = table[:3]
	measured := append(slices.Clone(a.law.Evidence), evidence(1, 2, 3))
	a.law.Evidence = measured[:2]
	results(a)
	if !alike(room, want) || table[3] != (api.ModelKnot{X: 5, Value: 5}) || measured[2] != evidence(1, 2, 3) {
		t.Error("changed", room, table, measured)
	}
}

func TestR4SameArgumentsSameResults(t *testing.T) {
	for _, a := range append(oddArguments(), exampleArguments()) {
		first := results(a)
		results(exampleArguments())
		alikeResults(t, first, results(a))
	}
}

func TestR5NilIsEmpty(t *testing.T) {
	none, empty := exampleArguments(), exampleArguments()
	none.coil.Readings, none.coils, none.law.Evidence = nil, nil, nil
	empty.coil.Readings, empty.coils, empty.law.Evidence = []api.ModelReading{}, []api.ModelCoil{}, []api.ModelEvidence{}
	alikeResults(t, results(none), results(empty))
	wantFrom(t, empty, api.OK, "HistoryOf", "MadeBy", "CheckLaw", "PointOf")

	none.rules.Table, none.coils = nil, coils(coil("a"))
	empty.rules.Table, empty.coils = []api.ModelKnot{}, []api.ModelCoil{{Name: "a", Readings: []api.ModelReading{}}}
	alikeResults(t, results(none), results(empty))

	none.rules, empty.rules = exampleRules(), exampleRules()
	alikeResults(t, results(none), results(empty))
}

// TestR9FirstArgumentFirst has errors in all arguments, and mends them from the
// first one on.
func TestR9FirstArgumentFirst(t *testing.T) {
	a := exampleArguments()
	a.rules.Table[2].X = 9000
	a.correction, a.x, a.over, a.toward, a.steps = correction(0, 5), -1, ends(-1, 0), 5, -1
	a.coil.Name, a.coils, a.name = "?", nil, "?"
	a.law.Slope, a.at, a.point = ends(1, 0), 101, api.ModelPoint{}
	wantFrom(t, a, api.ErrOrder, slices.Concat(tableCalls, rulesCalls, lawCalls)...)
	a.rules = exampleRules()
	a.rules.Step = frac(2, 8)
	wantFrom(t, a, api.ErrForm, rulesCalls...)
	wantFrom(t, a, api.ErrRange, "ValueAt", "RangeOver")
	a.rules = exampleRules()
	wantFrom(t, a, api.ErrRange, "GainOf", "ForceAt", "LossOf", "Learned", "HistoryOf", "MadeBy", "Without", "Forgotten")
	wantFrom(t, a, api.ErrName, "CheckCoil", "BestFor")
	a.correction = correction(api.MaxModelVersion, 4)
	wantFrom(t, a, api.ErrName, slices.Concat(coilCalls, []string{"Without"})...)
	wantFrom(t, a, api.ErrRange, "ForceAt", "Forgotten")
	wantFrom(t, a, api.OK, "GainOf", "HistoryOf", "MadeBy")
	a.toward, a.steps = 0, 901
	wantFrom(t, a, api.ErrRange, "Forgotten")
	a.steps, a.coil = 900, firstCoil()
	wantFrom(t, a, api.ErrLarge, "Forgotten", "Learned")
	a.law = exampleLaw()
	wantFrom(t, a, api.ErrRange, "PredictionAt")
	wantFrom(t, a, api.ErrForm, "CheckPoint")
	wantFrom(t, a, api.ErrNone, "Contradicting")
	wantFrom(t, a, api.OK, "CheckLaw", "ParametersOf", "PointOf", "CheckCoil", "BestFor", "LossOf")
}
