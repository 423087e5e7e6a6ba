package cool_test

import (
	"math"
	"reflect"
	"slices"
	"strings"
	"testing"

	"cobble/api"
	"cobble/cool"
)

// The tests of this file are those of DOC.md's section 'Rules', for all calls of
// the package.

// arguments are one value for each argument of the calls.
type arguments struct {
	table           api.CoolTable
	strip           api.CoolStrip
	set, segment    int
	entry           api.Range
	plan            api.CoolPlan
	count           int
	sets            []int
	prices          api.CoolPrices
	bound           api.CoolBound
	faults          []api.CoolFault
	measured        api.CoolMeasured
	text, otherText string
}

func exampleArguments() arguments {
	return arguments{
		table: exampleTable(), strip: exampleStrip(), set: 2, segment: 1, entry: ends(8000, 9000),
		plan: examplePlan(), count: 3, sets: exampleSets(), prices: examplePrices(), bound: exampleBound(),
		faults: exampleFaults(), measured: exampleMeasured(), text: exampleText, otherText: planText,
	}
}

// brokenArguments have four banks, no bound that is accepted, and measured temperatures
// that several sets of faults explain.
func brokenArguments() arguments {
	a := exampleArguments()
	a.table.Banks = append(a.table.Banks, bank(200, 300, 2), bank(50, 60, 0))
	a.plan, a.sets, a.faults = plan(ranges(0, 0, 2, 2), nil, ranges(0, 1, 3, 3, 5, 5), nil), numbers(1, 0, 9), faults(closed(0), opened(2), opened(1))
	a.strip.Targets[2] = ends(0, 12000)
	a.bound = bound(prices(1, 1), repeated(9, 16), repeated(9, 16), repeated(9, 16))
	a.measured = measured(numbers(0, 0, 0), ranges(6330, 6330, 6330, 6330, 6330, 6330))
	a.text, a.otherText = "200 10;100 100 0;1 2 3;4 5 6", "0 1,3 3;;4 4"
	return a
}

// results calls every function, and collects what each one returns; the last
// value is its error, if it returns one.
func results(a arguments) map[string][]any {
	l := map[string][]any{}
	add := func(name string, x ...any) { l[name] = x }
	addTableResults(a, add)
	addStripResults(a, add)
	addCostResults(a, add)
	addTextResults(a, add)
	return l
}

func addTableResults(a arguments, add func(string, ...any)) {
	n, e := cool.CheckTable(a.table)
	add("CheckTable", n, e)
	r, e := cool.PassedBy(a.table, a.set, a.entry)
	add("PassedBy", r, e)
	n, e = cool.AvailableAt(a.table, a.segment)
	add("AvailableAt", n, e)
	n, e = cool.CheckPlan(a.table, a.plan)
	add("CheckPlan", n, e)
	l, e := cool.SetsOf(a.table, a.plan, a.count)
	add("SetsOf", l, e)
	p, e := cool.PlanOf(a.table, a.sets)
	add("PlanOf", p, e)
	l, e = cool.WithFaults(a.table, a.sets, a.faults)
	add("WithFaults", l, e)
}

func addStripResults(a arguments, add func(string, ...any)) {
	n, e := cool.CheckStrip(a.strip)
	add("CheckStrip", n, e)
	r, e := cool.ExitsOf(a.table, a.strip, a.sets)
	add("ExitsOf", r, e)
	l, e := cool.AnswersOf(a.table, a.strip, a.sets)
	add("AnswersOf", l, e)
	l, e = cool.ReachingAt(a.table, a.strip, a.segment)
	add("ReachingAt", l, e)
	l, e = cool.UnreachedIn(a.table, a.strip)
	add("UnreachedIn", l, e)
	f, e := cool.FaultsIn(a.table, a.strip, a.measured)
	add("FaultsIn", f, e)
}

func addCostResults(a arguments, add func(string, ...any)) {
	n, e := cool.CostOf(a.table, a.prices, a.sets)
	add("CostOf", n, e)
	l, n, e := cool.Cheapest(a.table, a.strip, a.prices)
	add("Cheapest", l, n, e)
	n, e = cool.BoundOf(a.table, a.strip, a.bound)
	add("BoundOf", n, e)
}

func addTextResults(a arguments, add func(string, ...any)) {
	add("FormatTable", cool.FormatTable(a.table))
	t, e := cool.ParseTable(a.text)
	add("ParseTable", t, e)
	add("FormatPlan", cool.FormatPlan(a.plan))
	p, e := cool.ParsePlan(a.otherText)
	add("ParsePlan", p, e)
}

// slicesIn are the arguments that hold slices.
func (a arguments) slicesIn() []any {
	return []any{a.table, a.strip, a.plan, a.sets, a.bound, a.faults, a.measured}
}

func (a arguments) copied() arguments {
	a.table, a.strip, a.plan, a.sets = copyOf(a.table), copyOf(a.strip), copyOf(a.plan), copyOf(a.sets)
	a.bound, a.faults, a.measured = copyOf(a.bound), copyOf(a.faults), copyOf(a.measured)
	return a
}

func alikeResults(t *testing.T, a, b map[string][]any) {
	t.Helper()
	for name, values := range a {
		for i, x := range values {
			if y := b[name][i]; !alike(x, y) {
				t.Errorf("%s: %v and %v", name, x, y)
			}
		}
	}
}

// overwrite changes every number that a value holds in slices, also behind their
// ends.
func overwrite(x reflect.Value) {
	switch x.Kind() {
	case reflect.Slice:
		all := x.Slice(0, x.Cap())
		for i := range all.Len() {
			overwrite(all.Index(i))
		}
	case reflect.Struct:
		for i := range x.NumField() {
			overwrite(x.Field(i))
		}
	case reflect.Int:
		if x.CanSet() {
			x.SetInt(12345)
		}
	}
}

// oddArguments are outside the limits in many ways.
func oddArguments() []arguments {
	odd := []int{math.MinInt, math.MinInt + 1, -12001, -1, 0, 1, 2, 3, 4, 8, 15, 30, 63, 64, 1000, 12000, math.MaxInt - 1, math.MaxInt}
	texts := []string{"", " ", ";", ";;", ",", "1 2", "1 2;3 4 5", "1 2,3 4", "1 2;3 4", "1;2", "-;- - -", "01 2;3 4 5", "\x00 4 0", "\xff \xfe;\xfd", "-1 1", strings.Repeat("1 ", 1000), strings.Repeat("1;", 100000), "1 2;" + strings.Repeat("9", 1000)}
	var l []arguments
	for i, n := range odd {
		for j, m := range odd {
			a := exampleArguments()
			a.table, a.strip, a.set, a.segment, a.entry = table(n, m, bank(m, n, n)), strip(2, ends(n, m), ends(m, n)), n, m, ends(n, m)
			a.plan, a.count, a.sets, a.prices = plan(ranges(n, m), ranges(m, n)), n, numbers(n, m), prices(n, m)
			a.bound, a.faults, a.measured = bound(prices(m, n), numbers(n, m), numbers(m, n)), faults(opened(n), closed(m)), measured(numbers(n, m), ranges(n, m, m, n))
			a.text, a.otherText = texts[(i+j)%len(texts)], texts[(3*i+j)%len(texts)]
			b := exampleArguments()
			b.table.Banks[1], b.set, b.segment, b.plan.Commands[0] = bank(n, 1000, m), m, n, ranges(n, m, m, n)
			b.count, b.sets[1], b.prices.Open, b.bound.Values[2][1], b.faults[0].Bank, b.measured.Sets[2] = m, n, m, m, n, m
			c := exampleArguments()
			c.table.Water, c.strip.Entries[1], c.strip.Targets[2].Hi, c.entry.Hi, c.plan.Commands[1][0].Hi = n, ends(n, m), n, m, n
			c.prices.Change, c.bound.Prices.Open, c.bound.Values[1], c.sets = n, m, numbers(n, m, n, m), numbers(m)
			c.faults, c.measured.Exits[1] = faults(opened(1), closed(n), opened(m)), ends(m, n)
			d := exampleArguments()
			d.table.Air, d.strip.Targets, d.sets, d.bound.Values = n, ranges(n, m), numbers(0, n, m, 0), append(d.bound.Values, numbers(n, m))
			d.plan.Commands, d.measured.Sets = append(d.plan.Commands, ranges(n, m)), numbers(n, m)
			l = append(l, a, b, c, d)
		}
	}
	return append(l, arguments{})
}

// TestR1ZeroBesideErrors covers R2, too: no call panics. (The calls that check tables,
// strips and plans return an index beside an error.)
func TestR1ZeroBesideErrors(t *testing.T) {
	indexed := []string{"CheckTable", "CheckStrip", "CheckPlan"}
	for _, a := range append(oddArguments(), brokenArguments()) {
		for name, values := range results(a) {
			e, ok := values[len(values)-1].(api.Errno)
			if !ok || e == api.OK || slices.Contains(indexed, name) {
				continue
			}
			for _, x := range values[:len(values)-1] {
				if !copied(reflect.ValueOf(x)).IsZero() {
					t.Errorf("%s: %v beside %v", name, x, e)
				}
			}
		}
	}
}

var (
	planCalls      = []string{"CheckPlan", "SetsOf"}
	setsCalls      = []string{"PlanOf", "CostOf", "WithFaults"}
	stripSetsCalls = []string{"ExitsOf", "AnswersOf"}
	stripCalls     = slices.Concat(stripSetsCalls, []string{"ReachingAt", "UnreachedIn", "Cheapest", "BoundOf", "FaultsIn"})
	tableCalls     = slices.Concat([]string{"CheckTable", "PassedBy", "AvailableAt"}, planCalls, setsCalls, stripCalls)
	textCalls      = []string{"ParseTable", "ParsePlan"}
)

// wantFrom wants an error of each one of some calls.
func wantFrom(t *testing.T, a arguments, e api.Errno, calls ...string) {
	t.Helper()
	l := results(a)
	for _, name := range calls {
		if f := l[name][len(l[name])-1]; f != e {
			t.Errorf("%s: %v in place of %v", name, f, e)
		}
	}
}

func TestR2LargeArgumentsEnd(t *testing.T) {
	const n = 300001
	a := exampleArguments()
	a.table.Banks = make([]api.CoolBank, n)
	a.text, a.otherText = "0 0"+strings.Repeat(";1 1 1", n), strings.Repeat("1 1,", n)
	wantFrom(t, a, api.ErrLarge, append(tableCalls, textCalls...)...)
	a = exampleArguments()
	a.strip = api.CoolStrip{Entries: make([]api.Range, n), Targets: make([]api.Range, n)}
	a.plan.Commands[1], a.sets = make([]api.Range, n), make([]int, n)
	wantFrom(t, a, api.ErrLarge, slices.Concat(stripCalls, planCalls, setsCalls, []string{"CheckStrip"})...)
	a = exampleArguments()
	a.faults = make([]api.CoolFault, n)
	wantFrom(t, a, api.ErrLarge, "WithFaults")
	a.strip.Targets, a.plan.Commands, a.sets = make([]api.Range, n), make([][]api.Range, n), make([]int, n)
	wantFrom(t, a, api.ErrShape, slices.Concat(stripCalls, planCalls, []string{"CheckStrip"})...)
	a = exampleArguments()
	a.sets, a.bound.Values, a.measured.Exits = make([]int, n), make([][]int, n), make([]api.Range, n)
	wantFrom(t, a, api.ErrShape, append(stripSetsCalls, "BoundOf", "FaultsIn")...)
	a.bound = exampleBound()
	a.bound.Values[2] = make([]int, n)
	wantFrom(t, a, api.ErrShape, "BoundOf")
}

// TestR2LongestWays is the most that valid arguments ask for.
func TestR2LongestWays(t *testing.T) {
	a := exampleArguments()
	a.table = table(12000, 100, bank(1000, 1000, 8), bank(1000, 1000, 8), bank(1000, 1000, 8), bank(1000, 1000, 8))
	a.strip, a.set, a.segment, a.entry = strip(12, ends(0, 12000), ends(0, 12000)), 15, 11, ends(0, 12000)
	a.plan, a.count, a.sets = plan(ranges(30, 30), ranges(0, 30), nil, nil), 12, with(repeated(0, 12), 11, 15)
	a.prices, a.bound = prices(1000, 1000), bound(prices(0, 0), slices.Repeat([][]int{repeated(-1000000, 16)}, 12)...)
	a.faults, a.measured = faults(closed(3), opened(2), closed(1), opened(0)), measured(repeated(15, 12), a.strip.Targets)
	wantFrom(t, a, api.OK, append(tableCalls, "CheckStrip")...)
	a.measured.Exits = slices.Repeat(ranges(12000, 12000), 12)
	wantFrom(t, a, api.ErrNone, "FaultsIn")
}

func TestR3ArgumentsStayAsTheyAre(t *testing.T) {
	for _, a := range append(oddArguments(), exampleArguments(), brokenArguments()) {
		before := a.copied()
		results(a)
		if !reflect.DeepEqual(before, a.copied()) {
			t.Fatal("changed", before, a)
		}
	}
}

// TestR3NothingIsShared overwrites results, and then arguments, and compares what
// should have stayed.
func TestR3NothingIsShared(t *testing.T) {
	for _, a := range []arguments{exampleArguments(), brokenArguments()} {
		original := a.copied()
		first := results(a)
		want := map[string][]any{}
		for name, values := range first {
			for _, x := range values {
				want[name] = append(want[name], copied(reflect.ValueOf(x)).Interface())
			}
		}
		for _, values := range first {
			for _, x := range values {
				overwrite(reflect.ValueOf(x))
			}
		}
		if !reflect.DeepEqual(a.copied(), original) {
			t.Error("a result shares memory with an argument", a)
		}
		alikeResults(t, want, results(a))

		l := results(a)
		for _, x := range a.slicesIn() {
			overwrite(reflect.ValueOf(x))
		}
		alikeResults(t, want, l)
	}
}

// wantApart overwrites one slice of a result after another, also behind its end, and
// wants that those after it stay as they are.
func wantApart[T any](t *testing.T, l [][]T) {
	t.Helper()
	if len(l) < 2 {
		t.Error("too few slices", l)
	}
	want := copyOf(l)
	for i := range l {
		if !alike(l[i:], want[i:]) {
			t.Error(i, l)
		}
		overwrite(reflect.ValueOf(l[i]))
	}
}

func TestR3SlicesOfAResultShareNothing(t *testing.T) {
	a := brokenArguments()
	f, e := cool.FaultsIn(a.table, a.strip, a.measured)
	if e != api.OK {
		t.Fatal(e)
	}
	wantApart(t, f)
	p, e := cool.PlanOf(a.table, numbers(9, 8, 13))
	if e != api.OK {
		t.Fatal(e)
	}
	wantApart(t, p.Commands)
	p, e = cool.ParsePlan("0 0,2 2,4 4;1 1;5 5,7 7")
	if e != api.OK {
		t.Fatal(e)
	}
	wantApart(t, p.Commands)
}

// TestR3SparesMemoryBehindSlices has slices with room behind their ends, into which
// nothing may be written.
func TestR3SparesMemoryBehindSlices(t *testing.T) {
	for _, a := range []arguments{exampleArguments(), brokenArguments()} {
		behind := ranges(7, 7, 7, 7)
		banks, sets, broken := append(a.table.Banks, bank(7, 7, 7), bank(7, 7, 7)), append(a.sets, 7, 7), append(a.faults, opened(7), opened(7))
		entries, targets, exits := append(a.strip.Entries, behind...), append(a.strip.Targets, behind...), append(a.measured.Exits, behind...)
		commands, first, values := append(a.plan.Commands, behind), append(a.plan.Commands[0], behind...), append(a.bound.Values, numbers(7))
		all := func() []any {
			return []any{copyOf(banks), copyOf(sets), copyOf(broken), copyOf(entries), copyOf(targets), copyOf(exits), copyOf(commands), copyOf(first), copyOf(values)}
		}
		commands[0] = first[:len(a.plan.Commands[0])]
		a.table.Banks, a.sets, a.faults = banks[:len(a.table.Banks)], sets[:3], broken[:len(a.faults)]
		a.strip.Entries, a.strip.Targets, a.measured.Exits = entries[:3], targets[:3], exits[:3]
		a.plan.Commands, a.bound.Values = commands[:len(a.plan.Commands)], values[:3]
		before := all()
		results(a)
		if !alike(before, all()) {
			t.Error("changed", before, all())
		}
	}
}

func TestR4SameArgumentsSameResults(t *testing.T) {
	for _, a := range append(oddArguments(), exampleArguments(), brokenArguments()) {
		first := results(a)
		results(exampleArguments())
		alikeResults(t, first, results(a))
	}
}

func TestR5NilIsEmpty(t *testing.T) {
	none, empty := exampleArguments(), exampleArguments()
	none.table.Banks, none.strip, none.plan = nil, api.CoolStrip{}, api.CoolPlan{}
	empty.table.Banks, empty.strip, empty.plan = []api.CoolBank{}, api.CoolStrip{Entries: []api.Range{}, Targets: []api.Range{}}, plan([][]api.Range{}...)
	alikeResults(t, results(none), results(empty))
	wantFrom(t, empty, api.ErrShape, append(tableCalls, "CheckStrip")...)
	none, empty = exampleArguments(), exampleArguments()
	none.sets, none.faults, none.plan.Commands, none.bound.Values, none.measured = nil, nil, nil, nil, api.CoolMeasured{}
	empty.sets, empty.faults, empty.plan.Commands, empty.bound.Values, empty.measured = []int{}, []api.CoolFault{}, [][]api.Range{}, [][]int{}, measured([]int{}, []api.Range{})
	alikeResults(t, results(none), results(empty))
	wantFrom(t, empty, api.ErrShape, slices.Concat(planCalls, setsCalls, stripSetsCalls, []string{"BoundOf", "FaultsIn"})...)
	none, empty = exampleArguments(), exampleArguments()
	none.faults, none.plan.Commands[0], none.bound.Values[1], none.strip.Targets = nil, nil, nil, nil
	empty.faults, empty.plan.Commands[0], empty.bound.Values[1], empty.strip.Targets = []api.CoolFault{}, []api.Range{}, []int{}, []api.Range{}
	alikeResults(t, results(none), results(empty))
	wantFrom(t, empty, api.OK, append(planCalls, "WithFaults")...)
	wantFrom(t, empty, api.ErrShape, stripCalls...)
}

// TestR9FirstArgumentFirst has errors in all arguments, and mends them from the
// first one on.
func TestR9FirstArgumentFirst(t *testing.T) {
	a := exampleArguments()
	a.table.Banks[1].Rate, a.strip.Targets[2], a.set, a.segment, a.entry = ends(2, 1), ends(2, 1), 4, 12, ends(1, 0)
	a.plan.Commands, a.count, a.sets, a.prices = a.plan.Commands[:1], 13, numbers(0, 2, 4), prices(0, 1001)
	a.bound, a.faults, a.measured.Sets[0] = bound(prices(-1, 0), nil), faults(opened(2)), 4
	wantFrom(t, a, api.ErrOrder, append(tableCalls, "CheckStrip")...)
	a.table, a.measured.Exits[0] = exampleTable(), ends(1, 0)
	wantFrom(t, a, api.ErrOrder, append(stripCalls, "CheckStrip")...)
	wantFrom(t, a, api.ErrRange, append(setsCalls, "PassedBy")...)
	wantFrom(t, a, api.ErrMissing, "AvailableAt")
	wantFrom(t, a, api.ErrShape, planCalls...)
	a.strip, a.set, a.plan, a.sets[2], a.prices = exampleStrip(), 3, examplePlan(), 0, examplePrices()
	wantFrom(t, a, api.ErrOrder, "PassedBy")
	wantFrom(t, a, api.ErrRange, "SetsOf", "BoundOf", "FaultsIn")
	wantFrom(t, a, api.ErrMissing, "ReachingAt", "WithFaults")
	a.bound.Prices, a.measured.Sets[0] = examplePrices(), 0
	wantFrom(t, a, api.ErrShape, "BoundOf")
	wantFrom(t, a, api.ErrOrder, "FaultsIn")
	wantFrom(t, a, api.OK, "CheckTable", "CheckStrip", "CheckPlan", "PlanOf", "CostOf", "Cheapest", "UnreachedIn", "ExitsOf", "AnswersOf")
}
