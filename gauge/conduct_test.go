package gauge_test

import (
	"math"
	"reflect"
	"slices"
	"strings"
	"testing"

	"cobble/api"
	"cobble/gauge"
)

// The tests of this file are those of DOC.md's section 'Rules', for all calls of
// the package.

// arguments are one value for each argument of the calls.
type arguments struct {
	modulus, plastic int
	pass             api.GaugePass
	stand            api.GaugeStand
	entry, exit      int
	speeds, exits    []int
	loop             api.GaugeLoop
	steps            int
	proof            api.GaugeProof
	run              api.GaugeRun
	growth           api.GaugeGrowth
	monitor          api.GaugeMonitor
	swings           []int
	swing            int
	chain            api.GaugeChain
	move             api.GaugeMove
	box              []api.Range
	start            []int
	text             string
}

func exampleArguments() arguments {
	return arguments{
		modulus: 400, plastic: 100, pass: examplePass(), stand: exampleStand(), entry: 4500, exit: 2500,
		speeds: numbers(100, 200, 250), exits: numbers(50, 25, 21),
		loop: exampleLoop(), steps: 3, proof: proof(2, 1, 1),
		run:     run(numbers(2, 4), ticks(numbers(5, -2), numbers(5, -2)), 3, -1),
		growth:  growth(numbers(2, 4), numbers(5, -2)),
		monitor: exampleMonitor(), swings: slices.Repeat(numbers(8), 9), swing: 8,
		chain: exampleChain(), move: move(numbers(4, 6), 1, 0), box: boxOf(ends(-2, 2), ends(0, 0)), start: numbers(0, 0),
		text: exampleText,
	}
}

// growingArguments have a loop that grows and does not settle.
func growingArguments() arguments {
	a := exampleArguments()
	a.loop, a.proof = exactLoop(1, 1, 2), proof(1, 1, 1)
	a.run, a.growth = run(numbers(2, 1), ticks(numbers(1, 2)), 0), growth(numbers(2, 1), numbers(1, 2))
	return a
}

// results calls every function, and collects what each one returns; the last
// value is its error, if it returns one.
func results(a arguments) map[string][]any {
	l := map[string][]any{}
	add := func(name string, x ...any) { l[name] = x }
	addStandResults(a, add)
	addLoopResults(a, add)
	addMonitorResults(a, add)
	addChainResults(a, add)
	add("FormatLoop", gauge.FormatLoop(a.loop))
	x, e := gauge.ParseLoop(a.text)
	add("ParseLoop", x, e)
	return l
}

func addStandResults(a arguments, add func(string, ...any)) {
	add("CheckStand", gauge.CheckStand(a.stand))
	f, e := gauge.ExitOf(a.modulus, a.plastic, a.pass)
	add("ExitOf", f, e)
	s, e := gauge.ExitSpan(a.stand, a.pass)
	add("ExitSpan", s, e)
	s, e = gauge.GapSpan(a.stand, a.entry, a.exit)
	add("GapSpan", s, e)
	l, e := gauge.MassFlow(a.speeds, a.exits)
	add("MassFlow", l, e)
}

func addLoopResults(a arguments, add func(string, ...any)) {
	add("CheckLoop", gauge.CheckLoop(a.loop))
	m, e := gauge.PowerOf(a.loop, a.steps)
	add("PowerOf", m, e)
	f, e := gauge.NormOf(a.loop, a.proof)
	add("NormOf", f, e)
	f, e = gauge.CheckSettling(a.loop, a.proof)
	add("CheckSettling", f, e)
	p, e := gauge.SettlingOf(a.loop)
	add("SettlingOf", p, e)
	l, e := gauge.RunOf(a.loop, a.run)
	add("RunOf", l, e)
	f, e = gauge.CheckGrowth(a.loop, a.growth)
	add("CheckGrowth", f, e)
	l, e = gauge.ResponseOf(a.loop, a.steps)
	add("ResponseOf", l, e)
	f, e = gauge.GainBound(a.loop, a.proof)
	add("GainBound", f, e)
}

func addMonitorResults(a arguments, add func(string, ...any)) {
	add("CheckMonitor", gauge.CheckMonitor(a.monitor))
	l, e := gauge.Monitored(a.monitor, a.swings)
	add("Monitored", l, e)
	n, e := gauge.RestsAfter(a.monitor, a.swing)
	add("RestsAfter", n, e)
}

func addChainResults(a arguments, add func(string, ...any)) {
	i, e := gauge.CheckChain(a.chain)
	add("CheckChain", i, e)
	l, e := gauge.ChainStep(a.chain, a.move)
	add("ChainStep", l, e)
	i, e = gauge.CheckBox(a.chain, a.box)
	add("CheckBox", i, e)
	box, e := gauge.BoxFor(a.chain, a.start)
	add("BoxFor", box, e)
}

// slicesOf are the arguments that hold slices.
func (a arguments) slicesOf() []any {
	return []any{a.speeds, a.exits, a.loop, a.proof, a.run, a.growth, a.swings, a.chain, a.move, a.box, a.start}
}

func (a arguments) copied() arguments {
	a.speeds, a.exits, a.loop, a.proof = copyOf(a.speeds), copyOf(a.exits), copyOf(a.loop), copyOf(a.proof)
	a.run, a.growth, a.swings = copyOf(a.run), copyOf(a.growth), copyOf(a.swings)
	a.chain, a.move, a.box, a.start = copyOf(a.chain), copyOf(a.move), copyOf(a.box), copyOf(a.start)
	return a
}

func alikeResults(t *testing.T, a, b map[string][]any) {
	t.Helper()
	for name, values := range a {
		for i, x := range values {
			if y := b[name][i]; !alike(x, y) {
				t.Errorf("%s: %v and %v", name, x, y)
			}
		}
	}
}

// overwrite changes every number that a value holds in slices, also behind their
// ends.
func overwrite(x reflect.Value) {
	switch x.Kind() {
	case reflect.Slice:
		all := x.Slice(0, x.Cap())
		for i := range all.Len() {
			overwrite(all.Index(i))
		}
	case reflect.Struct:
		for i := range x.NumField() {
			overwrite(x.Field(i))
		}
	case reflect.Int:
		if x.CanSet() {
			x.SetInt(12345)
		}
	}
}

// oddArguments are outside the limits in many ways.
func oddArguments() []arguments {
	odd := []int{math.MinInt, math.MinInt + 1, -1, 0, 1, 2, 6, 8, 10, 100, 500, 1000, 100000, math.MaxInt - 1, math.MaxInt}
	texts := []string{"", ";", "x", "1;", "1;1", "1;1 1,", "1;1 1", "0;0 0", "10;9 -9", "\x00", "\xff;\xfe", "-1;-1 -1", strings.Repeat("1,", 1000), "1;1 " + strings.Repeat("9", 1000)}
	var l []arguments
	for i, n := range odd {
		for j, m := range odd {
			a := exampleArguments()
			a.modulus, a.plastic, a.pass, a.stand = n, m, pass(m, n), stand(ends(n, m), ends(m, n))
			a.entry, a.exit, a.speeds, a.exits = n, m, numbers(n, m), numbers(m, n)
			a.loop, a.steps, a.proof = loopOf(m, ends(n, m), ends(m, n)), n, proof(n, m, n)
			a.monitor, a.swings, a.swing = monitor(n, m, n, m), numbers(n, m), n
			a.chain, a.text = chain(looper(n, m, n, ends(n, m), ends(m, n))), texts[(i+j)%len(texts)]
			b := exampleArguments()
			b.steps, b.proof = n, proof(m, n, m)
			b.run, b.growth = run(numbers(n, m), ticks(numbers(n, m)), m), growth(numbers(n, m), numbers(m, n))
			b.swings, b.swing = numbers(n, m, n), m
			b.move, b.box, b.start = move(numbers(n, m), m, n), boxOf(ends(n, m), ends(m, n)), numbers(m, n)
			c := exampleArguments()
			c.speeds, c.exits = numbers(n), numbers(m, m)
			c.loop, c.proof = exactLoop(n, m), proof(1, 1)
			c.run, c.growth = run(numbers(n), ticks(nil, numbers(m))), growth(numbers(0, 0), nil, numbers(n))
			c.monitor, c.chain.Loopers[1].Num, c.chain.Loopers[1].Den = monitor(0, n, m, 0), n, m
			c.move, c.box, c.start = move(nil, n), nil, numbers(m)
			d := exampleArguments()
			d.loop, d.run.Disturbances, d.growth.Start = loopOf(1, ends(-10, 10), ends(-10, 10)), numbers(n, m), numbers(n, m)
			d.chain.Loopers[0].Disturbance, d.chain.Loopers[1].Limits = ends(n, m), ends(n, m)
			l = append(l, a, b, c, d)
		}
	}
	return append(l, arguments{})
}

// TestR1ZeroBesideErrors covers R2, too: no call panics. (The calls that check a
// chain and a box return an index beside an error.)
func TestR1ZeroBesideErrors(t *testing.T) {
	indexed := []string{"CheckChain", "CheckBox"}
	for _, a := range oddArguments() {
		for name, values := range results(a) {
			e, ok := values[len(values)-1].(api.Errno)
			if !ok || e == api.OK || slices.Contains(indexed, name) {
				continue
			}
			for _, x := range values[:len(values)-1] {
				if !copied(reflect.ValueOf(x)).IsZero() {
					t.Errorf("%s: %v beside %v", name, x, e)
				}
			}
		}
	}
}

var (
	standCalls  = []string{"CheckStand", "ExitSpan", "GapSpan"}
	loopCalls   = []string{"CheckLoop", "PowerOf", "NormOf", "CheckSettling", "SettlingOf", "RunOf", "CheckGrowth", "ResponseOf", "GainBound"}
	proofCalls  = []string{"NormOf", "CheckSettling", "GainBound"}
	chainCalls  = []string{"CheckChain", "ChainStep", "CheckBox", "BoxFor"}
	settleCalls = []string{"CheckSettling", "GainBound"}
)

// wantFrom wants an error of each one of some calls.
func wantFrom(t *testing.T, a arguments, e api.Errno, calls ...string) {
	t.Helper()
	l := results(a)
	for _, name := range calls {
		if f := l[name][len(l[name])-1]; f != e {
			t.Errorf("%s: %v in place of %v", name, f, e)
		}
	}
}

func TestR2LargeArgumentsEnd(t *testing.T) {
	const n = 300000
	a := exampleArguments()
	a.speeds, a.exits, a.loop.Coefs, a.swings, a.chain.Loopers = make([]int, n), make([]int, n), make([]api.Range, n), make([]int, n), make([]api.GaugeLooper, n)
	a.text = strings.Repeat("1;1 1,", n)
	wantFrom(t, a, api.ErrLarge, slices.Concat(loopCalls, chainCalls, []string{"MassFlow", "Monitored"})...)
	wantFrom(t, a, api.ErrSyntax, "ParseLoop")
	a = exampleArguments()
	a.run.Coefs, a.growth.Coefs, a.proof.Weights, a.move.Heights, a.box, a.start = make([][]int, n), make([][]int, n), make([]int, n), make([]int, n), make([]api.Range, n), make([]int, n)
	wantFrom(t, a, api.ErrLarge, "RunOf", "CheckGrowth")
	wantFrom(t, a, api.ErrShape, slices.Concat(proofCalls, []string{"ChainStep", "CheckBox", "BoxFor"})...)
}

// TestR2LongestWays is the most that valid arguments ask for.
func TestR2LongestWays(t *testing.T) {
	a := exampleArguments()
	a.loop, a.steps, a.proof = loopOf(10, ends(-10, 10), ends(-10, 10), ends(-10, 10)), 6, proof(6, 1, 10, 10)
	a.swings = slices.Repeat(numbers(100), 500)
	a.chain, a.start = api.GaugeChain{}, make([]int, 5)
	for range 5 {
		a.chain.Loopers = append(a.chain.Loopers, looper(1000, 1, 100, ends(0, 1), ends(-1000, 1000)))
	}
	a.chain.Loopers[4].Num = 0
	wantFrom(t, a, api.OK, "PowerOf", "NormOf", "Monitored", "CheckChain")
	wantFrom(t, a, api.ErrNone, "SettlingOf", "BoxFor")
}

func TestR3ArgumentsStayAsTheyAre(t *testing.T) {
	for _, a := range append(oddArguments(), exampleArguments(), growingArguments()) {
		before := a.copied()
		results(a)
		if !reflect.DeepEqual(before, a.copied()) {
			t.Fatal("changed", before, a)
		}
	}
}

// TestR3NothingIsShared overwrites results, and then arguments, and compares what
// should have stayed.
func TestR3NothingIsShared(t *testing.T) {
	unit := exampleArguments()
	unit.steps = 0
	for _, a := range []arguments{exampleArguments(), growingArguments(), unit} {
		original := a.copied()
		first := results(a)
		want := map[string][]any{}
		for name, values := range first {
			for _, x := range values {
				want[name] = append(want[name], copied(reflect.ValueOf(x)).Interface())
			}
		}
		for _, values := range first {
			for _, x := range values {
				overwrite(reflect.ValueOf(x))
			}
		}
		if !reflect.DeepEqual(a.copied(), original) {
			t.Error("a result shares memory with an argument", a)
		}
		alikeResults(t, want, results(a))

		l := results(a)
		for _, x := range a.slicesOf() {
			overwrite(reflect.ValueOf(x))
		}
		alikeResults(t, want, l)
	}
}

// TestR3RowsAreApart overwrites one row of a power, also behind its end.
func TestR3RowsAreApart(t *testing.T) {
	for steps := range api.MaxGaugeSteps + 1 {
		m, _ := gauge.PowerOf(exampleLoop(), steps)
		want := copyOf(m[1])
		overwrite(reflect.ValueOf(m[0]))
		if !alike(m[1], want) {
			t.Error("rows share memory", steps, m)
		}
	}
}

// TestR3SparesMemoryBehindSlices has slices with room behind their ends, into which
// nothing may be written.
func TestR3SparesMemoryBehindSlices(t *testing.T) {
	a := exampleArguments()
	coefs := append(slices.Clone(a.loop.Coefs), ends(7, 7))
	start := append(slices.Clone(a.run.Start), 7)
	loopers := append(slices.Clone(a.chain.Loopers), a.chain.Loopers[0])
	box := append(slices.Clone(a.box), ends(7, 7))
	all := []any{copyOf(coefs), copyOf(start), copyOf(loopers), copyOf(box)}
	a.loop.Coefs, a.run.Start, a.growth.Start, a.start = coefs[:2], start[:2], start[:2], start[:2]
	a.chain.Loopers, a.box = loopers[:2], box[:2]
	results(a)
	if !alike(all, []any{copyOf(coefs), copyOf(start), copyOf(loopers), copyOf(box)}) {
		t.Error("changed", coefs, start, loopers, box)
	}
}

func TestR4SameArgumentsSameResults(t *testing.T) {
	for _, a := range append(oddArguments(), exampleArguments(), growingArguments()) {
		first := results(a)
		results(exampleArguments())
		alikeResults(t, first, results(a))
	}
}

func TestR5NilIsEmpty(t *testing.T) {
	none, empty := exampleArguments(), exampleArguments()
	none.speeds, none.exits, none.proof.Weights, none.swings = nil, nil, nil, nil
	none.run, none.growth = run(numbers(2, 4), nil), growth(nil)
	none.move, none.box, none.start = api.GaugeMove{}, nil, nil
	empty.speeds, empty.exits, empty.proof.Weights, empty.swings = []int{}, []int{}, []int{}, []int{}
	empty.run, empty.growth = api.GaugeRun{Start: numbers(2, 4), Coefs: [][]int{}, Disturbances: []int{}}, api.GaugeGrowth{Start: []int{}, Coefs: [][]int{}}
	empty.move, empty.box, empty.start = api.GaugeMove{Heights: []int{}, Disturbances: []int{}}, []api.Range{}, []int{}
	alikeResults(t, results(none), results(empty))
	wantFrom(t, empty, api.OK, "RunOf", "Monitored")
	wantFrom(t, empty, api.ErrShape, "MassFlow", "NormOf", "CheckGrowth", "ChainStep", "CheckBox", "BoxFor")

	none, empty = exampleArguments(), exampleArguments()
	none.loop.Coefs, none.chain.Loopers = nil, nil
	empty.loop.Coefs, empty.chain.Loopers = []api.Range{}, []api.GaugeLooper{}
	none.run.Coefs[0], empty.run.Coefs[0] = nil, []int{}
	alikeResults(t, results(none), results(empty))
	wantFrom(t, empty, api.ErrShape, slices.Concat(loopCalls, chainCalls)...)
}

// TestR9FirstArgumentFirst has errors in all arguments, and mends them from the
// first one on.
func TestR9FirstArgumentFirst(t *testing.T) {
	a := exampleArguments()
	a.stand.Modulus.Lo, a.pass, a.entry = 401, pass(-1, 0), 0
	a.loop.Coefs[1].Lo, a.steps, a.proof, a.run, a.growth = -1, -1, proof(0), api.GaugeRun{}, api.GaugeGrowth{}
	a.monitor.Band, a.swings, a.swing = -1, make([]int, 501), 10001
	a.chain.Loopers[1].Num, a.move, a.box, a.start = 3, api.GaugeMove{}, nil, nil
	wantFrom(t, a, api.ErrOrder, slices.Concat(standCalls, loopCalls)...)
	wantFrom(t, a, api.ErrForm, chainCalls...)
	wantFrom(t, a, api.ErrRange, "CheckMonitor", "Monitored", "RestsAfter")
	a.stand, a.monitor, a.chain = exampleStand(), exampleMonitor(), exampleChain()
	wantFrom(t, a, api.ErrRange, "ExitSpan", "GapSpan", "RestsAfter")
	wantFrom(t, a, api.ErrLarge, "Monitored")
	wantFrom(t, a, api.ErrShape, "ChainStep", "CheckBox", "BoxFor")
	a.loop.Coefs[1].Lo = -3
	wantFrom(t, a, api.ErrForm, "ResponseOf", "GainBound")
	wantFrom(t, a, api.ErrRange, "PowerOf", "NormOf", "CheckSettling")
	wantFrom(t, a, api.ErrShape, "RunOf", "CheckGrowth")
	a.loop.Coefs[1].Lo = -2
	wantFrom(t, a, api.ErrRange, "ResponseOf", "GainBound")
	a.proof = proof(1, 1, 1)
	wantFrom(t, a, api.ErrProof, settleCalls...)
	wantFrom(t, a, api.OK, "CheckStand", "CheckLoop", "NormOf", "SettlingOf", "CheckMonitor", "CheckChain")
}
