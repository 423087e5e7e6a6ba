package pass_test

import (
	"math"
	"reflect"
	"slices"
	"strings"
	"testing"

	"cobble/api"
	"cobble/pass"
)

// The tests of this file are those of DOC.md's section 'Rules', for all calls of
// the package.

// arguments are one value for each argument of the calls.
type arguments struct {
	rules               api.PassRules
	schedule            api.PassSchedule
	material            api.PassMaterial
	length, limit, grid int
	potentials          [][]int
	name, text          string
}

func exampleArguments() arguments {
	return arguments{
		rules: exampleRules(), schedule: exampleSchedule(), material: exampleMaterial(), length: 300, limit: api.PassBite, grid: 10,
		potentials: zeros(2, 5), name: pass.FormatSchedule(exampleSchedule()), text: pass.FormatRules(exampleRules()),
	}
}

// results calls every function, and collects what each one returns; the last
// value is its error, if it returns one.
func results(a arguments) map[string][]any {
	l := map[string][]any{}
	add := func(name string) func(x any, e api.Errno) {
		return func(x any, e api.Errno) { l[name] = []any{x, e} }
	}
	r, s := a.rules, a.schedule
	i, e := pass.CheckRules(r)
	add("CheckRules")(i, e)
	i, e = pass.CheckSchedule(r, s)
	add("CheckSchedule")(i, e)
	i, e = pass.CheckMaterial(r, a.material)
	add("CheckMaterial")(i, e)
	parts, e := pass.ReductionsOf(r, s)
	add("ReductionsOf")(parts, e)
	parts, e = pass.LengthsOf(r, s, a.length)
	add("LengthsOf")(parts, e)
	ranges, e := pass.ForcesOf(r, s)
	add("ForcesOf")(ranges, e)
	ranges, e = pass.TorquesOf(r, s)
	add("TorquesOf")(ranges, e)
	spans, e := pass.HeatsOf(r, s)
	add("HeatsOf")(spans, e)
	ranges, e = pass.MarginsOf(r, s, a.limit)
	add("MarginsOf")(ranges, e)
	i, e = pass.HoldsFor(r, s)
	add("HoldsFor")(i, e)
	b, e := pass.WeakestOf(r, s)
	add("WeakestOf")(b, e)
	parts, is, e := pass.Rolled(r, s, a.material)
	l["Rolled"] = []any{parts, is, e}
	i, e = pass.EnergyOf(r, s)
	add("EnergyOf")(i, e)
	best, i, e := pass.Cheapest(r, a.grid)
	l["Cheapest"] = []any{best, i, e}
	i, e = pass.CheckBound(r, a.grid, a.potentials)
	add("CheckBound")(i, e)
	p, e := pass.PotentialsOf(r, a.grid)
	add("PotentialsOf")(p, e)
	i, e = pass.FewestOf(r, a.grid)
	add("FewestOf")(i, e)
	b, e = pass.BlockedAt(r, a.grid)
	add("BlockedAt")(b, e)
	l["FormatSchedule"] = []any{pass.FormatSchedule(s)}
	s, e = pass.ParseSchedule(a.name)
	add("ParseSchedule")(s, e)
	l["FormatRules"] = []any{pass.FormatRules(r)}
	r, e = pass.ParseRules(a.text)
	add("ParseRules")(r, e)
	return l
}

// copied is a value that shares no memory with x, and in which empty slices are
// nil ones.
func copied(x reflect.Value) reflect.Value {
	y := reflect.New(x.Type()).Elem()
	switch x.Kind() {
	case reflect.Slice:
		for i := range x.Len() {
			y = reflect.Append(y, copied(x.Index(i)))
		}
	case reflect.Struct:
		for i := range x.NumField() {
			if y.Field(i).CanSet() {
				y.Field(i).Set(copied(x.Field(i)))
			}
		}
	default:
		y.Set(x)
	}
	return y
}

func copyOf[T any](x T) T {
	return copied(reflect.ValueOf(x)).Interface().(T)
}

func (a arguments) copied() arguments {
	a.rules, a.schedule, a.material, a.potentials = copyOf(a.rules), copyOf(a.schedule), copyOf(a.material), copyOf(a.potentials)
	return a
}

func alike(a, b any) bool {
	return reflect.DeepEqual(copied(reflect.ValueOf(a)).Interface(), copied(reflect.ValueOf(b)).Interface())
}

func isZero(x any) bool {
	return copied(reflect.ValueOf(x)).IsZero()
}

func alikeResults(t *testing.T, a, b map[string][]any) {
	t.Helper()
	for name, values := range a {
		for i, x := range values {
			if y := b[name][i]; !alike(x, y) {
				t.Errorf("%s: %v and %v", name, x, y)
			}
		}
	}
}

// overwrite changes every number and string that a value holds in slices, also
// behind their ends.
func overwrite(x reflect.Value) {
	switch x.Kind() {
	case reflect.Slice:
		all := x.Slice(0, x.Cap())
		for i := range all.Len() {
			overwrite(all.Index(i))
		}
	case reflect.Struct:
		for i := range x.NumField() {
			overwrite(x.Field(i))
		}
	case reflect.Int:
		if x.CanSet() {
			x.SetInt(12345)
		}
	}
}

// oddArguments are outside the limits in many ways.
func oddArguments() []arguments {
	numbers := []int{math.MinInt, math.MinInt + 1, -1, 0, 1, 2, 60, 100, 1000, 20000, 1000000000000, math.MaxInt - 1, math.MaxInt}
	texts := []string{"", " ", "x", "1 x", "x 1", "x 60 ", "\x00", "\xff\xfe", strings.Repeat("1 ", 1000), "a " + strings.Repeat("9", 1000), " ; ", ";", "1 1 1 1 1 1 1 1 1 1 ; 1"}
	var l []arguments
	for i, n := range numbers {
		for j, m := range numbers {
			a := exampleArguments()
			switch i % 3 {
			case 0:
				a.rules = api.PassRules{Width: n, Start: m, Finish: n, Heat: ends(n, m), Coldest: n, Stress: ends(m, n), Friction: ends(n, n), Stands: []api.PassStand{stand(n, m, n, m, n)}}
			case 1:
				a.rules.Stands[1] = stand(n, m, n, m, n)
			}
			a.schedule = schedule(n, m)
			a.material = material(n, m, n, m, n)
			a.length, a.limit, a.grid = n, m, n
			a.potentials = [][]int{{n, m}, {m, n}, {n}}
			a.name, a.text = texts[(i+j)%len(texts)], texts[(i+2*j)%len(texts)]
			l = append(l, a)
			b := exampleArguments()
			b.length, b.limit, b.grid = m, n, m
			b.material.Losses[1], b.schedule.Thicknesses[0] = n, m
			b.potentials[0][0], b.potentials[2][4] = n, m
			l = append(l, b)
			c := exampleArguments()
			c.potentials[i%3][j%5], c.rules.Coldest = n, m
			l = append(l, c)
		}
	}
	return append(l, arguments{})
}

// TestR1ZeroBesideErrors covers R2, too: no call panics. (The calls that check
// rules, a schedule and a material return an index beside an error.)
func TestR1ZeroBesideErrors(t *testing.T) {
	indexed := []string{"CheckRules", "CheckSchedule", "CheckMaterial"}
	for _, a := range oddArguments() {
		for name, values := range results(a) {
			e, ok := values[len(values)-1].(api.Errno)
			if !ok || e == api.OK || slices.Contains(indexed, name) {
				continue
			}
			for _, x := range values[:len(values)-1] {
				if !isZero(x) {
					t.Errorf("%s: %v beside %v", name, x, e)
				}
			}
		}
	}
}

var (
	scheduleCalls = []string{"CheckSchedule", "ReductionsOf", "LengthsOf", "ForcesOf", "TorquesOf", "HeatsOf", "MarginsOf", "HoldsFor", "WeakestOf", "Rolled", "EnergyOf"}
	gridCalls     = []string{"Cheapest", "CheckBound", "PotentialsOf", "FewestOf", "BlockedAt"}
)

// wantFrom wants an error of each one of some calls.
func wantFrom(t *testing.T, a arguments, e api.Errno, calls ...string) {
	t.Helper()
	l := results(a)
	for _, name := range calls {
		if f := l[name][len(l[name])-1]; f != e {
			t.Errorf("%s: %v in place of %v", name, f, e)
		}
	}
}

func TestR2LargeArgumentsEnd(t *testing.T) {
	const n = 300000
	a := exampleArguments()
	a.rules.Stands = make([]api.PassStand, n)
	a.schedule.Thicknesses, a.material.Losses = make([]int, n), make([]int, n)
	wantFrom(t, a, api.ErrLarge, slices.Concat([]string{"CheckRules", "CheckMaterial"}, scheduleCalls, gridCalls)...)
	a.rules = exampleRules()
	wantFrom(t, a, api.ErrShape, scheduleCalls...)
	wantFrom(t, a, api.ErrShape, "CheckMaterial")
	a.potentials = make([][]int, n)
	wantFrom(t, a, api.ErrShape, "CheckBound")
	a.potentials = [][]int{make([]int, n), nil, nil}
	wantFrom(t, a, api.ErrShape, "CheckBound")
}

// TestR2LongestWays is the most that valid arguments ask for.
func TestR2LongestWays(t *testing.T) {
	a := exampleArguments()
	a.rules = freeRules(40, 1, 6)
	a.grid, a.potentials = 1, zeros(6, 40)
	wantFrom(t, a, api.OK, "Cheapest", "CheckBound", "PotentialsOf", "FewestOf")
	for i := range a.rules.Stands {
		a.rules.Stands[i].Force = 0
	}
	wantFrom(t, a, api.OK, "CheckBound", "BlockedAt")
	wantFrom(t, a, api.ErrNone, "Cheapest", "PotentialsOf", "FewestOf")
}

func TestR3ArgumentsStayAsTheyAre(t *testing.T) {
	for _, a := range append(oddArguments(), exampleArguments()) {
		before := a.copied()
		results(a)
		if !reflect.DeepEqual(before, a.copied()) {
			t.Fatal("changed", before, a)
		}
	}
}

// TestR3NothingIsShared overwrites results, and then arguments, and compares what
// should have stayed.
func TestR3NothingIsShared(t *testing.T) {
	blocked := exampleArguments()
	blocked.rules.Coldest = 10000
	for _, a := range []arguments{exampleArguments(), blocked} {
		original := a.copied()
		first := results(a)
		want := map[string][]any{}
		for name, values := range first {
			for _, x := range values {
				want[name] = append(want[name], copied(reflect.ValueOf(x)).Interface())
			}
		}
		for _, values := range first {
			for _, x := range values {
				overwrite(reflect.ValueOf(x))
			}
		}
		if !reflect.DeepEqual(a.copied(), original) {
			t.Error("a result shares memory with an argument", a)
		}
		alikeResults(t, want, results(a))

		l := results(a)
		for _, x := range []any{a.rules, a.schedule, a.material, a.potentials} {
			overwrite(reflect.ValueOf(x))
		}
		alikeResults(t, want, l)
	}
}

// TestR3PartsShareNothing overwrites one slice of potentials, and looks at the
// others.
func TestR3PartsShareNothing(t *testing.T) {
	p, e := pass.PotentialsOf(exampleRules(), 10)
	if e != api.OK {
		t.Fatal(e)
	}
	want := copyOf(p)
	for i := range p {
		overwrite(reflect.ValueOf(p[i]))
		for j := i + 1; j < len(p); j++ {
			if !slices.Equal(p[j], want[j]) {
				t.Error("potentials share memory", i, j)
			}
		}
	}
}

func TestR4SameArgumentsSameResults(t *testing.T) {
	for _, a := range append(oddArguments(), exampleArguments()) {
		first := results(a)
		results(exampleArguments())
		alikeResults(t, first, results(a))
	}
}

func TestR5NilIsEmpty(t *testing.T) {
	none, empty := exampleArguments(), exampleArguments()
	none.schedule.Thicknesses, none.material.Losses, none.potentials = nil, nil, nil
	empty.schedule.Thicknesses, empty.material.Losses, empty.potentials = []int{}, []int{}, [][]int{}
	alikeResults(t, results(none), results(empty))

	none.rules.Stands, none.potentials = nil, [][]int{nil, nil, nil}
	empty.rules.Stands, empty.potentials = []api.PassStand{}, [][]int{{}, {}, {}}
	alikeResults(t, results(none), results(empty))

	none.rules, empty.rules = exampleRules(), exampleRules()
	alikeResults(t, results(none), results(empty))
}

// TestR9FirstArgumentFirst has errors in all arguments, and mends them from the
// first one on.
func TestR9FirstArgumentFirst(t *testing.T) {
	a := exampleArguments()
	a.rules.Stands[1].Loss.Lo = 200
	a.schedule.Name, a.material.Losses = "?", nil
	a.length, a.limit, a.grid, a.potentials = 0, -1, 0, nil
	wantFrom(t, a, api.ErrOrder, slices.Concat([]string{"CheckRules", "CheckMaterial"}, scheduleCalls, gridCalls)...)
	a.rules.Stands[1].Loss.Lo = 0
	wantFrom(t, a, api.ErrName, scheduleCalls...)
	wantFrom(t, a, api.ErrRange, gridCalls...)
	a.schedule.Name = "best"
	a.grid = 1
	wantFrom(t, a, api.ErrRange, "LengthsOf")
	wantFrom(t, a, api.ErrKind, "MarginsOf")
	wantFrom(t, a, api.ErrShape, "Rolled", "CheckMaterial")
	wantFrom(t, a, api.ErrLarge, gridCalls...)
	a.grid = 10
	wantFrom(t, a, api.ErrShape, "CheckBound")
	wantFrom(t, a, api.OK, "Cheapest", "PotentialsOf", "FewestOf")
	a.length, a.limit, a.material, a.potentials = 1, 0, exampleMaterial(), zeros(2, 5)
	wantFrom(t, a, api.OK, "LengthsOf", "MarginsOf", "Rolled", "CheckMaterial", "CheckBound")
}
