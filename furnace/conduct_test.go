package furnace_test

import (
	"math"
	"reflect"
	"slices"
	"strings"
	"testing"

	"cobble/api"
	"cobble/furnace"
)

// The tests of this file are those of DOC.md's section 'Rules', for all calls of
// the package.

// arguments are one value for each argument of the calls.
type arguments struct {
	rules          api.FurnaceRules
	slab           api.FurnaceSlab
	step           api.FurnaceStep
	run            api.FurnaceRun
	goal           api.FurnaceGoal
	beam           api.FurnaceBeam
	fuel           api.FurnaceFuel
	proof          api.FurnaceProof
	sets, choice   []int
	at, tick, late int
	text           string
}

func exampleArguments() arguments {
	return arguments{
		rules: exampleRules(), slab: exampleSlab(), step: api.FurnaceStep{Emissivity: 500, Set: 1500},
		run: run(500, 1500, 1, 1400, 0), goal: exampleGoal(), beam: exampleBeam(), fuel: exampleFuel(),
		proof: proofOf([]int{1}, [][]int{{0}}, nil), sets: []int{1000, 1200}, choice: []int{1},
		at: 500, tick: 20, late: 30, text: "1500x1 1200x20",
	}
}

// results calls every function, and collects what each one returns; the last
// value is its error, if it returns one.
func results(a arguments) map[string][]any {
	l := map[string][]any{}
	add := func(name string) func(x any, e api.Errno) {
		return func(x any, e api.Errno) { l[name] = []any{x, e} }
	}
	r, s := a.rules, a.slab
	i, e := furnace.CheckTable(r.Table)
	add("CheckTable")(i, e)
	i, e = furnace.RadianceAt(r.Table, a.at)
	add("RadianceAt")(i, e)
	l["CheckRules"] = []any{furnace.CheckRules(r)}
	l["CheckSlab"] = []any{furnace.CheckSlab(s)}
	h, e := furnace.Heated(r, s, a.step)
	add("Heated")(h, e)
	i, e = furnace.CheckRoute(a.run.Route)
	add("CheckRoute")(i, e)
	slabs, e := furnace.RunOf(r, s, a.run)
	add("RunOf")(slabs, e)
	ranges, e := furnace.EnclosureOf(r, s, a.run.Route)
	add("EnclosureOf")(ranges, e)
	m, e := furnace.MeanOf(s)
	add("MeanOf")(m, e)
	i, e = furnace.SkidMark(r, s, a.run)
	add("SkidMark")(i, e)
	i, e = furnace.IsReady(r, s, a.goal)
	add("IsReady")(i, e)
	i, e = furnace.EarliestOf(r, s, a.goal)
	add("EarliestOf")(i, e)
	i, e = furnace.MaxDelay(r, s, a.goal)
	add("MaxDelay")(i, e)
	i, e = furnace.CheckBeam(a.beam)
	add("CheckBeam")(i, e)
	zones, e := furnace.RouteOf(a.beam, a.sets)
	add("RouteOf")(zones, e)
	i, e = furnace.ZoneAt(a.beam, a.tick, a.late)
	add("ZoneAt")(i, e)
	i, e = furnace.LatestCharge(a.beam, a.late)
	add("LatestCharge")(i, e)
	i, e = furnace.FuelOf(a.fuel, a.choice)
	add("FuelOf")(i, e)
	c, i, e := furnace.CheapestSets(r, s, a.fuel)
	l["CheapestSets"] = []any{c, i, e}
	p, e := furnace.FuelProofOf(r, s, a.fuel)
	add("FuelProofOf")(p, e)
	c, e = furnace.CheckFuelProof(r, s, api.FurnaceClaim{Fuel: a.fuel, Proof: a.proof})
	add("CheckFuelProof")(c, e)
	l["FormatRoute"] = []any{furnace.FormatRoute(a.run.Route)}
	zones, e = furnace.ParseRoute(a.text)
	add("ParseRoute")(zones, e)
	return l
}

// copied is a value that shares no memory with x, and in which empty slices are
// nil ones.
func copied(x reflect.Value) reflect.Value {
	y := reflect.New(x.Type()).Elem()
	switch x.Kind() {
	case reflect.Slice:
		for i := range x.Len() {
			y = reflect.Append(y, copied(x.Index(i)))
		}
	case reflect.Struct:
		for i := range x.NumField() {
			if y.Field(i).CanSet() {
				y.Field(i).Set(copied(x.Field(i)))
			}
		}
	default:
		y.Set(x)
	}
	return y
}

func (a arguments) copied() arguments {
	return arguments{
		rules: copyOf(a.rules), slab: copyOf(a.slab), step: a.step, run: copyOf(a.run), goal: copyOf(a.goal),
		beam: copyOf(a.beam), fuel: copyOf(a.fuel), proof: copyOf(a.proof), sets: copyOf(a.sets),
		choice: copyOf(a.choice), at: a.at, tick: a.tick, late: a.late, text: a.text,
	}
}

func copyOf[T any](x T) T {
	return copied(reflect.ValueOf(x)).Interface().(T)
}

func alike(a, b any) bool {
	return reflect.DeepEqual(copied(reflect.ValueOf(a)).Interface(), copied(reflect.ValueOf(b)).Interface())
}

func isZero(x any) bool {
	return copied(reflect.ValueOf(x)).IsZero()
}

func alikeResults(t *testing.T, a, b map[string][]any) {
	t.Helper()
	for name, values := range a {
		for i, x := range values {
			if y := b[name][i]; !alike(x, y) {
				t.Errorf("%s: %v and %v", name, x, y)
			}
		}
	}
}

// overwrite changes every number and string that a value holds in slices, also
// behind their ends.
func overwrite(x reflect.Value) {
	switch x.Kind() {
	case reflect.Slice:
		all := x.Slice(0, x.Cap())
		for i := range all.Len() {
			overwrite(all.Index(i))
		}
	case reflect.Struct:
		for i := range x.NumField() {
			overwrite(x.Field(i))
		}
	case reflect.Int:
		if x.CanSet() {
			x.SetInt(12345)
		}
	}
}

// oddArguments are outside the limits in many ways.
func oddArguments() []arguments {
	numbers := []int{math.MinInt, math.MinInt + 1, -1, 0, 1, 2, 50, 200, 1000, 20000, 1000000, math.MaxInt - 1, math.MaxInt}
	texts := []string{"", " ", "x", "1x", "x1", "1x1 ", "\x00", "\xff\xfe", strings.Repeat("1x1 ", 1000), strings.Repeat("9", 1000) + "x1", "1x1x1", "99999x99999"}
	var l []arguments
	for i, n := range numbers {
		for j, m := range numbers {
			a := exampleArguments()
			if i%3 != 0 {
				a.rules = api.FurnaceRules{Table: tableOf(n, m, m, n), Mix: n, Emissivity: ends(m, n)}
			}
			if j%3 == 0 {
				a.rules.Table = exampleTable()
			}
			if i%2 == 0 {
				a.slab = slab(n, m, n, m)
			}
			a.step = api.FurnaceStep{Emissivity: n, Set: m}
			a.run = run(m, n, m, m, n)
			a.goal = api.FurnaceGoal{Route: route(m, n), Target: ends(n, m)}
			a.beam = beam(n, m, n)
			a.fuel = api.FurnaceFuel{Sets: [][]int{{n, m}, {m}}, Steps: []int{n, m}, Prices: []int{m, n}, Target: ends(m, n)}
			a.proof = proofOf([]int{n}, [][]int{{m}, nil}, [][]int{{n, m}})
			a.sets, a.choice = []int{n, m}, []int{m, n}
			a.at, a.tick, a.late = n, m, n
			a.text = texts[(i+j)%len(texts)]
			l = append(l, a)
			b := exampleArguments()
			b.proof, b.choice, b.at, b.tick, b.late = a.proof, a.choice, n, m, n
			b.goal.Target, b.fuel.Target, b.run.Emissivity = ends(n, m), ends(m, n), n
			l = append(l, b)
		}
	}
	return append(l, arguments{})
}

// TestR1ZeroBesideErrors covers R2, too: no call panics. (CheckTable, CheckRoute
// and CheckBeam return an index beside an error, and CheckFuelProof a choice.)
func TestR1ZeroBesideErrors(t *testing.T) {
	indexed := []string{"CheckTable", "CheckRoute", "CheckBeam"}
	for _, a := range oddArguments() {
		for name, values := range results(a) {
			e, ok := values[len(values)-1].(api.Errno)
			if !ok || e == api.OK || slices.Contains(indexed, name) || name == "CheckFuelProof" && e == api.ErrProof {
				continue
			}
			for _, x := range values[:len(values)-1] {
				if !isZero(x) {
					t.Errorf("%s: %v beside %v", name, x, e)
				}
			}
		}
	}
}

func TestR2LargeArgumentsEnd(t *testing.T) {
	const n = 1000000
	a := exampleArguments()
	a.rules.Table.Points = make([]api.FurnacePoint, n)
	want := func(e api.Errno, calls ...string) {
		t.Helper()
		l := results(a)
		for _, name := range calls {
			if f := l[name][len(l[name])-1]; f != e {
				t.Errorf("%s: %v in place of %v", name, f, e)
			}
		}
	}
	want(api.ErrLarge, "CheckTable", "RadianceAt", "CheckRules", "Heated", "RunOf", "EnclosureOf", "SkidMark", "IsReady", "EarliestOf", "MaxDelay", "CheapestSets", "FuelProofOf", "CheckFuelProof")
	a = exampleArguments()
	a.slab.Nodes = make([]int, n)
	want(api.ErrLarge, "CheckSlab", "MeanOf", "Heated", "RunOf", "EnclosureOf", "SkidMark", "IsReady", "EarliestOf", "MaxDelay", "CheapestSets", "FuelProofOf", "CheckFuelProof")
	a = exampleArguments()
	a.run.Route, a.goal.Route = make([]api.FurnaceZone, n), make([]api.FurnaceZone, n)
	a.beam.Positions, a.text = make([]int, n), strings.Repeat("1x1 ", n)
	a.fuel = api.FurnaceFuel{Sets: make([][]int, n), Steps: make([]int, n), Prices: make([]int, n)}
	want(api.ErrLarge, "CheckRoute", "RunOf", "EnclosureOf", "SkidMark", "IsReady", "EarliestOf", "MaxDelay", "CheckBeam", "RouteOf", "ZoneAt", "LatestCharge", "FuelOf", "CheapestSets", "FuelProofOf", "CheckFuelProof", "ParseRoute")
	a = exampleArguments()
	a.sets, a.choice = make([]int, n), make([]int, n)
	want(api.ErrShape, "RouteOf", "FuelOf")
	a.proof = proofOf([]int{1}, make([][]int, n), make([][]int, n))
	want(api.ErrLarge, "CheckFuelProof")
	a = exampleArguments()
	a.fuel.Sets[0] = make([]int, n)
	want(api.ErrLarge, "FuelOf", "CheapestSets", "FuelProofOf", "CheckFuelProof")
}

// TestR2LongestWays is the most that valid arguments ask for.
func TestR2LongestWays(t *testing.T) {
	a := exampleArguments()
	a.slab.Nodes = make([]int, api.MaxFurnaceNodes)
	a.goal.Route = route(2000, 200, 2000, 200, 2000, 200, 2000, 200, 2000, 200)
	a.fuel = wideFuel(3, 3, 3, 3, 3)
	for zone := range a.fuel.Steps {
		a.fuel.Steps[zone] = api.MaxFurnaceSteps
	}
	a.fuel.Target = ends(299, 20000)
	a.proof = proofOf(nil, nil, nil)
	results(a)
	zeros := make([]int, 5)
	a.proof = proofOf([]int{2, 2, 2, 2, 2}, slices.Repeat([][]int{zeros}, 300), nil)
	results(a)
}

func TestR3ArgumentsStayAsTheyAre(t *testing.T) {
	for _, a := range append(oddArguments(), exampleArguments()) {
		before := a.copied()
		results(a)
		after := a.copied()
		if !reflect.DeepEqual(before, after) {
			t.Fatal("changed", before, after)
		}
	}
}

// TestR3NothingIsShared overwrites results, and then arguments, and compares what
// should have stayed.
func TestR3NothingIsShared(t *testing.T) {
	first := results(exampleArguments())
	a := exampleArguments()
	l := results(a)
	for _, values := range l {
		for _, x := range values {
			overwrite(reflect.ValueOf(x))
		}
	}
	if !reflect.DeepEqual(a.copied(), exampleArguments().copied()) {
		t.Error("a result shares memory with an argument", a)
	}
	alikeResults(t, first, results(a))

	l = results(a)
	for _, x := range []any{a.rules, a.slab, a.run, a.goal, a.beam, a.fuel, a.proof, a.sets, a.choice} {
		overwrite(reflect.ValueOf(x))
	}
	alikeResults(t, first, l)
}

// TestR3PartsShareNothing overwrites one slice of a result, and looks at the others.
func TestR3PartsShareNothing(t *testing.T) {
	slabs, e := furnace.RunOf(exampleRules(), exampleSlab(), run(500, 1500, 1, 1500, 0, 1500, 1))
	if e != api.OK {
		t.Fatal(e)
	}
	want := copyOf(slabs)
	for i := range slabs {
		overwrite(reflect.ValueOf(slabs[i]))
		for j := i + 1; j < len(slabs); j++ {
			if !alikeSlabs(slabs[j], want[j]) {
				t.Error("slabs share memory", i, j)
			}
		}
	}
	r, s, x := ladder(1100, 1100)
	x.Sets[0], x.Prices[0] = []int{1000, 2000, 3000}, 0
	p, e := furnace.FuelProofOf(r, s, x)
	if e != api.OK || len(p.Cold) == 0 || len(p.Hot) == 0 {
		t.Fatal(p, e)
	}
	parts := slices.Concat([][]int{p.Choice}, p.Cold, p.Hot)
	before := copyOf(parts)
	for i := range parts {
		overwrite(reflect.ValueOf(parts[i]))
		for j := i + 1; j < len(parts); j++ {
			if !slices.Equal(parts[j], before[j]) {
				t.Error("choices share memory", i, j)
			}
		}
	}
}

func TestR4SameArgumentsSameResults(t *testing.T) {
	for _, a := range append(oddArguments(), exampleArguments()) {
		first := results(a)
		results(exampleArguments())
		alikeResults(t, first, results(a))
	}
}

func TestR5NilIsEmpty(t *testing.T) {
	none := exampleArguments()
	none.run.Route, none.sets, none.choice = nil, nil, nil
	none.proof.Hot = nil
	empty := none
	empty.run.Route, empty.sets, empty.choice = []api.FurnaceZone{}, []int{}, []int{}
	empty.proof.Hot = [][]int{}
	alikeResults(t, results(none), results(empty))

	none.rules.Table.Points, none.slab.Nodes, none.goal.Route, none.beam.Positions = nil, nil, nil, nil
	empty.rules.Table.Points, empty.slab.Nodes, empty.goal.Route, empty.beam.Positions = []api.FurnacePoint{}, []int{}, []api.FurnaceZone{}, []int{}
	alikeResults(t, results(none), results(empty))

	none, empty = exampleArguments(), exampleArguments()
	none.fuel.Sets[0], none.proof.Choice, none.proof.Cold = nil, nil, nil
	empty.fuel.Sets[0], empty.proof.Choice, empty.proof.Cold = []int{}, []int{}, [][]int{}
	alikeResults(t, results(none), results(empty))

	none, empty = exampleArguments(), exampleArguments()
	none.fuel.Sets, none.fuel.Steps, none.fuel.Prices, none.proof.Cold[0] = nil, nil, nil, nil
	empty.fuel.Sets, empty.fuel.Steps, empty.fuel.Prices, empty.proof.Cold[0] = [][]int{}, []int{}, []int{}, []int{}
	alikeResults(t, results(none), results(empty))
}

// TestR9FirstArgumentFirst has errors in all arguments, and mends them from the
// first one on.
func TestR9FirstArgumentFirst(t *testing.T) {
	a := exampleArguments()
	a.rules.Emissivity = ends(500, 400)
	a.slab = slab(500, 1)
	a.step.Set, a.run.Emissivity, a.at = -1, -1, -1
	a.goal.Route, a.beam.Positions, a.sets = route(-1, 1), make([]int, 6), []int{1}
	a.tick, a.late = -1, -1
	a.fuel.Sets[0], a.choice, a.proof.Choice = []int{2, 1}, []int{5}, []int{5}
	want := func(e api.Errno, calls ...string) {
		t.Helper()
		l := results(a)
		for _, name := range calls {
			if f := l[name][len(l[name])-1]; f != e {
				t.Errorf("%s: %v in place of %v", name, f, e)
			}
		}
	}
	steps := []string{"Heated", "RunOf", "SkidMark", "IsReady", "EarliestOf", "MaxDelay"}
	fuels := []string{"CheapestSets", "FuelProofOf", "CheckFuelProof"}
	beams := []string{"RouteOf", "ZoneAt", "LatestCharge"}
	want(api.ErrOrder, append(append(steps, fuels...), "EnclosureOf", "FuelOf")...)
	want(api.ErrLarge, beams...)
	want(api.ErrRange, "RadianceAt")
	a.rules.Emissivity = ends(400, 500)
	a.beam = exampleBeam()
	want(api.ErrShape, append(append(steps, fuels...), "EnclosureOf", "RouteOf")...)
	want(api.ErrRange, "ZoneAt", "LatestCharge")
	a.slab = exampleSlab()
	want(api.ErrRange, steps...)
	want(api.ErrOrder, append(fuels, "FuelOf")...)
	a.fuel = exampleFuel()
	want(api.ErrMissing, "FuelOf", "CheckFuelProof")
	want(api.OK, "CheapestSets", "FuelProofOf", "EnclosureOf")
	a.rules.Table = tableOf(0, 0, 1, 2)
	want(api.ErrBreak, "RadianceAt", "CheckRules")
}
