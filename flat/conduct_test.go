package flat_test

import (
	"math"
	"reflect"
	"slices"
	"strings"
	"testing"

	"cobble/api"
	"cobble/flat"
)

// The tests of this file are those of DOC.md's section 'Rules', for all calls of
// the package.

// arguments are one value for each argument of the calls.
type arguments struct {
	profile, after  []int
	law             api.FlatLaw
	changes         []api.Frac
	rules           api.FlatRules
	settings        []int
	weights         []int
	tolerance       int
	contour         []api.FlatPoint
	at              int
	strips          []api.FlatStrip
	temperatures    []int
	heat            api.FlatHeat
	steps           int
	text, otherText string
}

func exampleArguments() arguments {
	return arguments{
		profile: exampleProfile(), after: numbers(50, 51, 50), law: exampleLaw(), changes: exampleChanges(),
		rules: twoActors(), settings: numbers(4, 0), weights: numbers(1, 0, -2, 3), tolerance: 3,
		contour: exampleContour(), at: 25, strips: strips(strip(50, 200, 4)),
		temperatures: numbers(100, 0), heat: exampleHeat(), steps: 2,
		text: exampleText, otherText: profileText,
	}
}

// contradictedArguments have a tolerance that no settings keep, and nothing that
// wears or heats a roll.
func contradictedArguments() arguments {
	a := exampleArguments()
	a.tolerance, a.strips, a.steps = 2, nil, 0
	return a
}

// results calls every function, and collects what each one returns; the last
// value is its error, if it returns one.
func results(a arguments) map[string][]any {
	l := map[string][]any{}
	add := func(name string, x ...any) { l[name] = x }
	addProfileResults(a, add)
	addRulesResults(a, add)
	addRollResults(a, add)
	addTextResults(a, add)
	return l
}

func addProfileResults(a arguments, add func(string, ...any)) {
	add("CheckProfile", flat.CheckProfile(a.profile))
	f, e := flat.CrownOf(a.profile)
	add("CrownOf", f, e)
	n, e := flat.WedgeOf(a.profile)
	add("WedgeOf", n, e)
	changes, e := flat.ChangesOf(a.profile, a.after)
	add("ChangesOf", changes, e)
	l, e := flat.BucklesOf(a.law, a.changes)
	add("BucklesOf", l, e)
}

func addRulesResults(a arguments, add func(string, ...any)) {
	n, e := flat.CheckRules(a.rules)
	add("CheckRules", n, e)
	l, e := flat.DeviationsOf(a.rules, a.settings)
	add("DeviationsOf", l, e)
	n, e = flat.MaximumOf(a.rules, a.settings)
	add("MaximumOf", n, e)
	l, n, e = flat.Best(a.rules)
	add("Best", l, n, e)
	f, e := flat.BoundOf(a.rules, a.weights)
	add("BoundOf", f, e)
	l, e = flat.FirstWithin(a.rules, a.tolerance)
	add("FirstWithin", l, e)
	n, e = flat.CountWithin(a.rules, a.tolerance)
	add("CountWithin", n, e)
	l, e = flat.ContradictingIn(a.rules, a.tolerance)
	add("ContradictingIn", l, e)
}

func addRollResults(a arguments, add func(string, ...any)) {
	n, e := flat.CheckContour(a.contour)
	add("CheckContour", n, e)
	f, e := flat.HeightAt(a.contour, a.at)
	add("HeightAt", f, e)
	c, e := flat.Worn(a.contour, a.strips)
	add("Worn", c, e)
	l, e := flat.HeatedBy(a.temperatures, a.heat, a.steps)
	add("HeatedBy", l, e)
}

func addTextResults(a arguments, add func(string, ...any)) {
	add("FormatRules", flat.FormatRules(a.rules))
	r, e := flat.ParseRules(a.text)
	add("ParseRules", r, e)
	add("FormatProfile", flat.FormatProfile(a.profile))
	p, e := flat.ParseProfile(a.otherText)
	add("ParseProfile", p, e)
}

// slicesIn are the arguments that hold slices.
func (a arguments) slicesIn() []any {
	return []any{a.profile, a.after, a.changes, a.rules, a.settings, a.weights, a.contour, a.strips, a.temperatures}
}

func (a arguments) copied() arguments {
	a.profile, a.after, a.changes = copyOf(a.profile), copyOf(a.after), copyOf(a.changes)
	a.rules, a.settings, a.weights = copyOf(a.rules), copyOf(a.settings), copyOf(a.weights)
	a.contour, a.strips, a.temperatures = copyOf(a.contour), copyOf(a.strips), copyOf(a.temperatures)
	return a
}

func alikeResults(t *testing.T, a, b map[string][]any) {
	t.Helper()
	for name, values := range a {
		for i, x := range values {
			if y := b[name][i]; !alike(x, y) {
				t.Errorf("%s: %v and %v", name, x, y)
			}
		}
	}
}

// overwrite changes every number that a value holds in slices, also behind their
// ends.
func overwrite(x reflect.Value) {
	switch x.Kind() {
	case reflect.Slice:
		all := x.Slice(0, x.Cap())
		for i := range all.Len() {
			overwrite(all.Index(i))
		}
	case reflect.Struct:
		for i := range x.NumField() {
			overwrite(x.Field(i))
		}
	case reflect.Int:
		if x.CanSet() {
			x.SetInt(12345)
		}
	}
}

// oddArguments are outside the limits in many ways.
func oddArguments() []arguments {
	odd := []int{math.MinInt, math.MinInt + 1, -100001, -1000, -11, -1, 0, 1, 2, 3, 10, 200, 1000, 10000, 100000, 1000000000, math.MaxInt - 1, math.MaxInt}
	texts := []string{"", " ", ";", ";;", "1", "1 2 3", "1;2 3 4", "1;2 3", "1;2", "-;- - -", "01 2 3", "\x00 4 0", "\xff \xfe \xfd", "-1 1 1", strings.Repeat("1 ", 1000), strings.Repeat("1;", 100000), "1;" + strings.Repeat("9", 1000)}
	var l []arguments
	for i, n := range odd {
		for j, m := range odd {
			a := exampleArguments()
			a.profile, a.after, a.law, a.changes = numbers(n, m, n), numbers(m, n, m), law(ends(n, m), ends(m, n)), []api.Frac{frac(n, m), frac(m, n), frac(n, 1)}
			a.rules, a.settings, a.weights, a.tolerance = rules(numbers(n, m), actor(n, m, m, n)), numbers(m), numbers(n, m), n
			a.contour, a.at, a.strips = contour(n, m, m, n), n, strips(strip(n, m, m))
			a.temperatures, a.heat, a.steps = numbers(n, m), heat(m, n, m), m
			a.text, a.otherText = texts[(i+j)%len(texts)], texts[(3*i+j)%len(texts)]
			b := exampleArguments()
			b.after[0], b.profile[1], b.changes[1], b.law.Edge = m, n, frac(n, m), ends(n, m)
			b.rules.Actors[1].Settings, b.settings[1], b.weights[2], b.tolerance = ends(n, m), n, m, m
			b.at, b.strips[0], b.heat, b.steps = m, strip(n, 10000, m), heat(n, m, 0), n
			c := exampleArguments()
			c.profile[2], c.after[2], c.changes[2], c.law.Center.Hi = n, m, frac(m, 1000000007), n
			c.rules.Target[1], c.rules.Actors[0].Effects[2], c.settings = n, m, numbers(n, m)
			c.contour[1].Height, c.strips[0].Wear, c.temperatures[1], c.heat.Between = n, m, n, m
			d := exampleArguments()
			d.rules.Target, d.settings, d.weights, d.contour[1].At = numbers(n), numbers(m, n, m), numbers(m), m
			d.rules.Actors[0], d.rules.Actors[1] = actor(-10, 10, m), actor(n, n, 1)
			l = append(l, a, b, c, d)
		}
	}
	return append(l, arguments{})
}

// TestR1ZeroBesideErrors covers R2, too: no call panics. (The calls that check rules
// and contours return an index beside an error.)
func TestR1ZeroBesideErrors(t *testing.T) {
	indexed := []string{"CheckRules", "CheckContour"}
	for _, a := range append(oddArguments(), contradictedArguments()) {
		for name, values := range results(a) {
			e, ok := values[len(values)-1].(api.Errno)
			if !ok || e == api.OK || slices.Contains(indexed, name) {
				continue
			}
			for _, x := range values[:len(values)-1] {
				if !copied(reflect.ValueOf(x)).IsZero() {
					t.Errorf("%s: %v beside %v", name, x, e)
				}
			}
		}
	}
}

var (
	profileCalls   = []string{"CheckProfile", "CrownOf", "WedgeOf", "ChangesOf"}
	settingsCalls  = []string{"DeviationsOf", "MaximumOf"}
	toleranceCalls = []string{"FirstWithin", "CountWithin", "ContradictingIn"}
	rulesCalls     = slices.Concat([]string{"CheckRules", "Best", "BoundOf"}, settingsCalls, toleranceCalls)
	contourCalls   = []string{"CheckContour", "HeightAt", "Worn"}
	textCalls      = []string{"ParseRules", "ParseProfile"}
)

// wantFrom wants an error of each one of some calls.
func wantFrom(t *testing.T, a arguments, e api.Errno, calls ...string) {
	t.Helper()
	l := results(a)
	for _, name := range calls {
		if f := l[name][len(l[name])-1]; f != e {
			t.Errorf("%s: %v in place of %v", name, f, e)
		}
	}
}

func TestR2LargeArgumentsEnd(t *testing.T) {
	const n = 300001
	a := exampleArguments()
	a.profile, a.changes, a.rules.Target, a.contour, a.temperatures = make([]int, n), make([]api.Frac, n), make([]int, n), make([]api.FlatPoint, n), make([]int, n)
	a.text, a.otherText = strings.Repeat("1;1 1 1", n), strings.Repeat("1 ", n)
	wantFrom(t, a, api.ErrLarge, slices.Concat(profileCalls, rulesCalls, contourCalls, textCalls, []string{"BucklesOf", "HeatedBy"})...)
	a = exampleArguments()
	a.rules.Actors, a.strips = make([]api.FlatActor, n), make([]api.FlatStrip, n)
	wantFrom(t, a, api.ErrLarge, append(rulesCalls, "Worn")...)
	a = exampleArguments()
	a.after, a.settings, a.weights = make([]int, n-1), make([]int, n), make([]int, n)
	wantFrom(t, a, api.ErrShape, append(settingsCalls, "ChangesOf", "BoundOf")...)
	a = exampleArguments()
	a.rules.Actors[0].Effects = make([]int, n)
	wantFrom(t, a, api.ErrShape, rulesCalls...)
}

// TestR2LongestWays is the most that valid arguments ask for.
func TestR2LongestWays(t *testing.T) {
	a := exampleArguments()
	a.profile, a.after = repeated(100000, 9), repeated(1, 9)
	a.rules = rules(with(repeated(100000, 9), 4, -100000))
	for range 3 {
		a.rules.Actors = append(a.rules.Actors, actor(-10, 10, repeated(1000, 9)...))
	}
	a.settings, a.weights, a.tolerance = numbers(10, 10, -10), repeated(1000, 9), 100000
	a.contour, a.strips = contour(0, 0, 1, 1, 2, 2, 3, 3, 4, 4, 5, 5, 6, 6, 7, 7, 8, 8, 10000, 100000), slices.Repeat(strips(strip(0, 10000, 1000)), 20)
	a.temperatures, a.heat, a.steps = repeated(-100000, 9), heat(100000, 1000, 0), 200
	wantFrom(t, a, api.OK, slices.Concat(profileCalls, rulesCalls[:len(rulesCalls)-1], contourCalls, []string{"HeatedBy"})...)
	wantFrom(t, a, api.ErrNone, "ContradictingIn")
}

func TestR3ArgumentsStayAsTheyAre(t *testing.T) {
	for _, a := range append(oddArguments(), exampleArguments(), contradictedArguments()) {
		before := a.copied()
		results(a)
		if !reflect.DeepEqual(before, a.copied()) {
			t.Fatal("changed", before, a)
		}
	}
}

// TestR3NothingIsShared overwrites results, and then arguments, and compares what
// should have stayed.
func TestR3NothingIsShared(t *testing.T) {
	for _, a := range []arguments{exampleArguments(), contradictedArguments()} {
		original := a.copied()
		first := results(a)
		want := map[string][]any{}
		for name, values := range first {
			for _, x := range values {
				want[name] = append(want[name], copied(reflect.ValueOf(x)).Interface())
			}
		}
		for _, values := range first {
			for _, x := range values {
				overwrite(reflect.ValueOf(x))
			}
		}
		if !reflect.DeepEqual(a.copied(), original) {
			t.Error("a result shares memory with an argument", a)
		}
		alikeResults(t, want, results(a))

		l := results(a)
		for _, x := range a.slicesIn() {
			overwrite(reflect.ValueOf(x))
		}
		alikeResults(t, want, l)
	}
}

// TestR3ParsedRulesShareNothing overwrites the effects of one actuator after another,
// also behind their ends.
func TestR3ParsedRulesShareNothing(t *testing.T) {
	const text = "1 2 3;0 1 4 5 6;0 1 7 8 9;0 1 10 11 12"
	r, e := flat.ParseRules(text)
	if e != api.OK {
		t.Fatal(e)
	}
	want := copyOf(r)
	overwrite(reflect.ValueOf(r.Target))
	for i := range r.Actors {
		if !alike(r.Actors[i:], want.Actors[i:]) {
			t.Error(i, r)
		}
		overwrite(reflect.ValueOf(r.Actors[i].Effects))
	}
}

// TestR3SparesMemoryBehindSlices has slices with room behind their ends, into which
// nothing may be written.
func TestR3SparesMemoryBehindSlices(t *testing.T) {
	for _, a := range []arguments{exampleArguments(), contradictedArguments()} {
		behind := numbers(7, 7, 7)
		profile, target, temperatures := append(a.profile, behind...), append(a.rules.Target, behind...), append(a.temperatures, behind...)
		effects, c, l := append(a.rules.Actors[0].Effects, behind...), append(a.contour, contour(7, 7, 8, 8)...), append(a.strips, strip(7, 7, 7), strip(7, 7, 7))
		actors := append(a.rules.Actors, actor(7, 7, 7), actor(7, 7, 7))
		all := func() []any {
			return []any{copyOf(profile), copyOf(target), copyOf(temperatures), copyOf(effects), copyOf(c), copyOf(l), copyOf(actors)}
		}
		a.profile, a.rules.Target, a.temperatures = profile[:3], target[:4], temperatures[:2]
		a.contour, a.strips, a.rules.Actors = c[:2], l[:len(a.strips)], actors[:2]
		actors[0].Effects = effects[:4]
		before := all()
		results(a)
		if !alike(before, all()) {
			t.Error("changed", before, all())
		}
	}
}

func TestR4SameArgumentsSameResults(t *testing.T) {
	for _, a := range append(oddArguments(), exampleArguments(), contradictedArguments()) {
		first := results(a)
		results(exampleArguments())
		alikeResults(t, first, results(a))
	}
}

func TestR5NilIsEmpty(t *testing.T) {
	none, empty := exampleArguments(), exampleArguments()
	none.profile, none.changes, none.rules, none.contour, none.temperatures = nil, nil, api.FlatRules{}, nil, nil
	empty.profile, empty.changes, empty.rules, empty.contour, empty.temperatures = []int{}, []api.Frac{}, api.FlatRules{Target: []int{}, Actors: []api.FlatActor{}}, []api.FlatPoint{}, []int{}
	alikeResults(t, results(none), results(empty))
	wantFrom(t, empty, api.ErrShape, slices.Concat(profileCalls, rulesCalls, contourCalls, []string{"BucklesOf", "HeatedBy"})...)
	none, empty = exampleArguments(), exampleArguments()
	none.after, none.settings, none.weights, none.strips, none.rules.Actors[0].Effects = nil, nil, nil, nil, nil
	empty.after, empty.settings, empty.weights, empty.strips, empty.rules.Actors[0].Effects = []int{}, []int{}, []int{}, []api.FlatStrip{}, []int{}
	alikeResults(t, results(none), results(empty))
	wantFrom(t, empty, api.ErrShape, append(rulesCalls, "ChangesOf")...)
	wantFrom(t, empty, api.OK, "Worn")
	none, empty = exampleArguments(), exampleArguments()
	none.settings, none.weights, none.rules.Actors = nil, nil, nil
	empty.settings, empty.weights, empty.rules.Actors = []int{}, []int{}, []api.FlatActor{}
	alikeResults(t, results(none), results(empty))
	wantFrom(t, empty, api.ErrShape, rulesCalls...)
}

// TestR9FirstArgumentFirst has errors in all arguments, and mends them from the
// first one on.
func TestR9FirstArgumentFirst(t *testing.T) {
	a := exampleArguments()
	a.profile, a.after, a.law.Center, a.changes = numbers(0, 1, 1), repeated(1, 11), ends(1, 0), nil
	a.rules.Actors[1].Settings, a.settings, a.weights, a.tolerance = ends(1, 0), numbers(9), make([]int, 4), -1
	a.contour, a.at, a.strips = contour(5, 0, 5, 0), -1, strips(strip(0, 0, 1001))
	a.temperatures, a.heat, a.steps = numbers(1), heat(0, 1, 500), -1
	wantFrom(t, a, api.ErrRange, profileCalls...)
	wantFrom(t, a, api.ErrOrder, slices.Concat(rulesCalls, contourCalls, []string{"BucklesOf"})...)
	wantFrom(t, a, api.ErrShape, "HeatedBy")
	a.profile, a.law.Center, a.rules, a.contour, a.temperatures = exampleProfile(), ends(0, 0), twoActors(), exampleContour(), numbers(0, 0)
	wantFrom(t, a, api.ErrLarge, "ChangesOf")
	wantFrom(t, a, api.ErrShape, append(settingsCalls, "BucklesOf")...)
	wantFrom(t, a, api.ErrZero, "BoundOf")
	wantFrom(t, a, api.ErrRange, append(toleranceCalls, "Worn")...)
	wantFrom(t, a, api.ErrOpen, "HeightAt")
	wantFrom(t, a, api.ErrBreak, "HeatedBy")
	a.heat.Cooling = 0
	wantFrom(t, a, api.ErrRange, "HeatedBy")
	wantFrom(t, a, api.OK, "CheckProfile", "CrownOf", "WedgeOf", "CheckRules", "Best", "CheckContour")
}
