package campaign_test

import (
	"math"
	"reflect"
	"slices"
	"strings"
	"testing"

	"cobble/api"
	"cobble/campaign"
)

// The tests of this file are those of DOC.md's section 'Rules', for all calls of
// the package.

// arguments are one value for each argument of the calls.
type arguments struct {
	order    api.CampaignOrder
	slab     api.CampaignSlab
	text     string
	yard     [][]string
	request  []string
	move     api.CampaignMove
	plan     []api.CampaignMove
	rules    api.CampaignRules
	items    []api.CampaignItem
	sequence []int
	prices   []int
}

func exampleArguments() arguments {
	return arguments{
		order: exampleOrder(), slab: exampleSlab(), text: "a-1 width 1200 mm thickness 3 mm grade 5",
		yard: exampleYard(), request: []string{"a", "c"}, move: move(0, 2),
		plan:  []api.CampaignMove{move(0, 2), move(0, 1), out(0), out(2)},
		rules: exampleRules(), items: exampleItems(), sequence: []int{1, 0}, prices: []int{0, 20, 0},
	}
}

// copied shares no memory with a.
func (a arguments) copied() arguments {
	a.yard = copyYard(a.yard)
	a.request = slices.Clone(a.request)
	a.plan = slices.Clone(a.plan)
	a.items = slices.Clone(a.items)
	a.sequence = slices.Clone(a.sequence)
	a.prices = slices.Clone(a.prices)
	return a
}

// results calls every function, and collects what each one returns; the last
// value is its error, if it returns one.
func results(a arguments) map[string][]any {
	l := map[string][]any{}
	add := func(name string, values ...any) { l[name] = values }
	add1 := func(name string) func(x any, e api.Errno) {
		return func(x any, e api.Errno) { add(name, x, e) }
	}
	add("CheckOrder", campaign.CheckOrder(a.order))
	add("FormatOrder", campaign.FormatOrder(a.order))
	o, i, e := campaign.ParseOrder(a.text)
	add("ParseOrder", o, i, e)
	add("CheckSlab", campaign.CheckSlab(a.slab))
	add("FormatSlab", campaign.FormatSlab(a.slab))
	s, e := campaign.ParseSlab(a.text)
	add1("ParseSlab")(s, e)
	is, e := campaign.Suits(a.slab, a.order)
	add1("Suits")(is, e)
	r, e := campaign.CoilLength(a.slab, a.order)
	add1("CoilLength")(r, e)
	i, e = campaign.CheckYard(a.yard)
	add1("CheckYard")(i, e)
	y, e := campaign.Moved(a.yard, a.move)
	add1("Moved")(y, e)
	b, e := campaign.BlockedBy(a.yard, a.request)
	add1("BlockedBy")(b, e)
	p, e := campaign.PlanFor(a.yard, a.request)
	add1("PlanFor")(p, e)
	i, e = campaign.CheckPlan(a.yard, a.request, a.plan)
	add1("CheckPlan")(i, e)
	add("CheckRules", campaign.CheckRules(a.rules))
	v, e := campaign.ViolationOf(a.rules, a.items, a.sequence)
	add1("ViolationOf")(v, e)
	i, e = campaign.CostOf(a.rules, a.items, a.sequence)
	add1("CostOf")(i, e)
	c, i, e := campaign.Cheapest(a.rules, a.items)
	add("Cheapest", c, i, e)
	i, e = campaign.BoundOf(a.rules, a.items, a.prices)
	add1("BoundOf")(i, e)
	i, e = campaign.InsertedAt(a.rules, a.items, a.sequence)
	add1("InsertedAt")(i, e)
	c, e = campaign.Contradicting(a.rules, a.items)
	add1("Contradicting")(c, e)
	return l
}

// isZero treats empty slices as nil ones.
func isZero(x any) bool {
	v := reflect.ValueOf(x)
	return v.IsZero() || v.Kind() == reflect.Slice && v.Len() == 0
}

func alike(a, b any) bool {
	return isZero(a) && isZero(b) || reflect.DeepEqual(a, b)
}

func alikeResults(t *testing.T, a, b map[string][]any) {
	t.Helper()
	for name, values := range a {
		for i, x := range values {
			if y := b[name][i]; !alike(x, y) {
				t.Errorf("%s: %v and %v", name, x, y)
			}
		}
	}
}

// oddArguments are outside the limits in many ways.
func oddArguments() []arguments {
	numbers := []int{math.MinInt, math.MinInt + 1, -1, 0, 1, 7, 8, 500, 1000000, math.MaxInt - 1, math.MaxInt}
	texts := []string{"", " ", "a", "a ", "a grade", "a coiling 5 to", "\x00", "\xff\xfe", "a due 0 due", strings.Repeat("a ", 1000), strings.Repeat("9", 1000), "a 1 2 3 4", "a 1 1 500 1", "a grade 99999999999999999999"}
	yards := [][][]string{nil, {nil}, {{""}}, {{"a", "a"}}, make([][]string, 9), {names("a", 9)}, {{"a"}, nil}, {names("a", 6), names("b", 6), names("c", 6), names("d", 6)}}
	var l []arguments
	for i, n := range numbers {
		for j, m := range numbers {
			a := exampleArguments()
			a.order = api.CampaignOrder{Name: texts[j], Grade: n, Thickness: m, Tolerance: n, Width: m, Coiling: api.Range{Lo: n, Hi: m}, Due: n}
			a.slab = api.CampaignSlab{Name: texts[i], Grade: n, Thickness: m, Width: n, Length: m}
			a.text = texts[(i+j)%len(texts)]
			a.yard = yards[i%len(yards)]
			a.move = move(n, m)
			a.plan = []api.CampaignMove{move(m, n), move(0, 2)}
			if j%2 == 0 {
				a.rules = api.CampaignRules{Opening: n, WidthUp: m, WidthDown: n, ThicknessJump: m, HardnessJump: n, Metres: m, WidthPrice: n, ThicknessPrice: m, HardnessPrice: n}
			}
			if i%2 == 0 {
				a.items = []api.CampaignItem{item(n, m, n, m), item(m, n, m, n)}
			}
			a.sequence = []int{n, m}
			a.prices = []int{m, n, m}
			l = append(l, a)
		}
	}
	lone := exampleArguments()
	lone.yard, lone.request, lone.plan, lone.items, lone.sequence, lone.prices = nil, nil, nil, nil, nil, nil
	named := exampleArguments()
	named.order.Name, named.slab.Name, named.rules.Opening = "1", "1", -1
	return append(l, lone, named)
}

// TestR1ZeroBesideErrors covers R2, too: no call panics. (CheckYard, CheckPlan and
// ParseOrder return an index beside an error.)
func TestR1ZeroBesideErrors(t *testing.T) {
	indexed := []string{"CheckYard", "CheckPlan"}
	for _, a := range oddArguments() {
		for name, values := range results(a) {
			e, ok := values[len(values)-1].(api.Errno)
			if !ok || e == api.OK {
				continue
			}
			for i, x := range values[:len(values)-1] {
				if !isZero(x) && !slices.Contains(indexed, name) && !(name == "ParseOrder" && i == 1) {
					t.Errorf("%s: %v beside %v", name, x, e)
				}
			}
		}
	}
}

func TestR2LargeArgumentsEnd(t *testing.T) {
	a := exampleArguments()
	a.text = "a" + strings.Repeat(" grade 5", 100000)
	a.yard = [][]string{names("n", 100000)}
	a.request = names("n", 100000)
	a.plan = make([]api.CampaignMove, 100000)
	a.items = make([]api.CampaignItem, 100000)
	a.sequence = firstNumbers(100000)
	a.prices = make([]int, 100000)
	l := results(a)
	for name, want := range map[string]api.Errno{"ParseOrder": api.ErrDouble, "ParseSlab": api.ErrSyntax, "CheckYard": api.ErrLarge, "Moved": api.ErrLarge, "PlanFor": api.ErrLarge, "CheckPlan": api.ErrLarge, "ViolationOf": api.ErrLarge, "Cheapest": api.ErrLarge, "BoundOf": api.ErrLarge} {
		if e := l[name][len(l[name])-1]; e != want {
			t.Error(name, e)
		}
	}
	a = exampleArguments()
	a.request = slices.Repeat([]string{"a"}, 100000)
	a.sequence = slices.Repeat([]int{0}, 100000)
	l = results(a)
	for _, name := range []string{"BlockedBy", "PlanFor", "CheckPlan", "ViolationOf", "CostOf", "InsertedAt"} {
		if e := l[name][len(l[name])-1]; e != api.ErrDouble {
			t.Error(name, e)
		}
	}
}

func TestR3ArgumentsStayAsTheyAre(t *testing.T) {
	for _, a := range append(oddArguments(), exampleArguments()) {
		before := a.copied()
		results(a)
		if !alikeYards(a.yard, before.yard) || !slices.Equal(a.request, before.request) || !slices.Equal(a.plan, before.plan) || !slices.Equal(a.items, before.items) || !slices.Equal(a.sequence, before.sequence) || !slices.Equal(a.prices, before.prices) {
			t.Fatal("changed", a, before)
		}
	}
}

// TestR3NothingIsShared overwrites arguments and results, also behind their ends,
// and calls again.
func TestR3NothingIsShared(t *testing.T) {
	first := results(exampleArguments())
	a := exampleArguments()
	for p, pile := range a.yard {
		a.yard[p] = slices.Grow(pile, 8)
	}
	l := results(a)
	yard := l["Moved"][0].([][]string)
	for p := range yard {
		_ = append(yard[p], "x", "y", "z")
		for i := range yard[p] {
			yard[p][i] = "x"
		}
	}
	for p := range yard {
		if slices.ContainsFunc(yard[p], func(s string) bool { return s != "x" }) {
			t.Error("piles share memory", yard)
		}
	}
	for _, name := range []string{"Cheapest", "Contradicting"} {
		s := l[name][0].([]int)
		for i := range s[:cap(s)] {
			s[:cap(s)][i] = 99
		}
	}
	blocked, plan := l["BlockedBy"][0].([]string), l["PlanFor"][0].([]api.CampaignMove)
	for i := range blocked {
		blocked[i] = "x"
	}
	for i := range plan {
		plan[i] = move(9, 9)
	}
	if !alikeYards(a.yard, exampleYard()) {
		t.Error("the yard shares memory with a result", a.yard)
	}
	alikeResults(t, first, results(a))

	a = exampleArguments()
	l = results(a)
	for _, pile := range a.yard {
		for i := range pile {
			pile[i] = "x"
		}
	}
	for i := range a.request {
		a.request[i] = "x"
	}
	for i := range a.sequence {
		a.sequence[i] = 2
	}
	alikeResults(t, first, l)
}

func TestR4SameArgumentsSameResults(t *testing.T) {
	for _, a := range append(oddArguments(), exampleArguments()) {
		first := results(a)
		results(exampleArguments())
		alikeResults(t, first, results(a))
	}
}

func TestR5NilIsEmpty(t *testing.T) {
	none, empty := exampleArguments(), exampleArguments()
	none.yard, none.request, none.plan, none.sequence, none.prices = [][]string{{"a"}, nil}, nil, nil, nil, nil
	empty.yard, empty.request, empty.plan, empty.sequence, empty.prices = [][]string{{"a"}, {}}, []string{}, []api.CampaignMove{}, []int{}, []int{}
	empty.move, none.move = move(0, 1), move(0, 1)
	a, b := results(none), results(empty)
	for name := range a {
		if name != "Moved" {
			alikeResults(t, map[string][]any{name: a[name]}, b)
		}
	}
	if y, z := a["Moved"][0].([][]string), b["Moved"][0].([][]string); !alikeYards(y, z) || !alikeYards(y, [][]string{nil, {"a"}}) {
		t.Error(y, z)
	}
	none.yard, none.items = nil, nil
	empty.yard, empty.items = [][]string{}, []api.CampaignItem{}
	alikeResults(t, results(none), results(empty))
}

// TestR9FirstArgumentFirst has errors in all arguments, and mends them from the
// first one on.
func TestR9FirstArgumentFirst(t *testing.T) {
	a := exampleArguments()
	a.slab.Name, a.order.Coiling = "1", api.Range{Lo: 10, Hi: 0}
	a.yard, a.request, a.move = [][]string{{"1"}}, []string{"x"}, move(7, 7)
	a.rules.Opening, a.items, a.sequence, a.prices = 8, nil, []int{5}, nil
	want := func(e api.Errno, calls ...string) {
		t.Helper()
		l := results(a)
		for _, name := range calls {
			if f := l[name][len(l[name])-1]; f != e {
				t.Errorf("%s: %v in place of %v", name, f, e)
			}
		}
	}
	yardCalls := []string{"BlockedBy", "PlanFor", "CheckPlan"}
	sequenceCalls := []string{"ViolationOf", "CostOf", "InsertedAt"}
	itemCalls := []string{"Cheapest", "BoundOf", "Contradicting"}
	want(api.ErrName, "Suits", "CoilLength", "Moved")
	want(api.ErrName, yardCalls...)
	want(api.ErrRange, append(sequenceCalls, itemCalls...)...)
	a.slab, a.yard, a.rules = exampleSlab(), exampleYard(), exampleRules()
	want(api.ErrOrder, "Suits", "CoilLength")
	want(api.ErrMissing, append(yardCalls, "Moved")...)
	want(api.ErrShape, append(sequenceCalls, itemCalls...)...)
	a.items, a.plan = exampleItems(), make([]api.CampaignMove, 41)
	want(api.ErrMissing, append(sequenceCalls, "CheckPlan")...)
	want(api.ErrShape, "BoundOf")
	a.request = nil
	want(api.ErrLarge, "CheckPlan")
}
