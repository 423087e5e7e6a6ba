package campaign_test

import (
	"math"
	"math/rand"
	"slices"
	"testing"

	"cobble/api"
	"cobble/campaign"
)

func TestP1_5CheckRules(t *testing.T) {
	type set = func(r *api.CampaignRules, n int)
	for i, x := range []struct {
		set  set
		most int
	}{
		{func(r *api.CampaignRules, n int) { r.Opening = n }, 7},
		{func(r *api.CampaignRules, n int) { r.WidthUp = n }, 300000},
		{func(r *api.CampaignRules, n int) { r.WidthDown = n }, 300000},
		{func(r *api.CampaignRules, n int) { r.ThicknessJump = n }, 300000},
		{func(r *api.CampaignRules, n int) { r.HardnessJump = n }, 99},
		{func(r *api.CampaignRules, n int) { r.Metres = n }, 70000},
		{func(r *api.CampaignRules, n int) { r.WidthPrice = n }, 10000},
		{func(r *api.CampaignRules, n int) { r.ThicknessPrice = n }, 10000},
		{func(r *api.CampaignRules, n int) { r.HardnessPrice = n }, 10000},
	} {
		for n, want := range map[int]api.Errno{-1: api.ErrRange, 0: api.OK, 1: api.OK, x.most: api.OK, x.most + 1: api.ErrRange, math.MinInt: api.ErrRange, math.MaxInt: api.ErrRange} {
			r := exampleRules()
			x.set(&r, n)
			if e := campaign.CheckRules(r); e != want {
				t.Error(i, n, e)
			}
		}
	}
	if e := campaign.CheckRules(api.CampaignRules{}); e != api.OK {
		t.Error(e)
	}
}

// sequenceErrors are the errors of the calls whose arguments are rules, items and
// a sequence; results beside an error must be zero.
func sequenceErrors(t *testing.T, r api.CampaignRules, l []api.CampaignItem, s []int) []api.Errno {
	t.Helper()
	v, e := campaign.ViolationOf(r, l, s)
	if e != api.OK && v != (api.CampaignViolation{}) {
		t.Error(v, e)
	}
	cost, f := campaign.CostOf(r, l, s)
	if f != api.OK && cost != 0 {
		t.Error(cost, f)
	}
	p, g := campaign.InsertedAt(r, l, s)
	if g != api.OK && p != 0 {
		t.Error(p, g)
	}
	return []api.Errno{e, f, g}
}

// itemErrors are the errors of the calls whose arguments are rules and items.
func itemErrors(t *testing.T, r api.CampaignRules, l []api.CampaignItem) []api.Errno {
	t.Helper()
	s, cost, e := campaign.Cheapest(r, l)
	if e != api.OK && (len(s) != 0 || cost != 0) {
		t.Error(s, cost, e)
	}
	bound, f := campaign.BoundOf(r, l, make([]int, len(l)))
	if f != api.OK && bound != 0 {
		t.Error(bound, f)
	}
	c, g := campaign.Contradicting(r, l)
	if g != api.OK && len(c) != 0 {
		t.Error(c, g)
	}
	return []api.Errno{e, f, g}
}

func allAre(l []api.Errno, want api.Errno) bool {
	return !slices.ContainsFunc(l, func(e api.Errno) bool { return e != want })
}

func TestP1_5ErrorsOfItems(t *testing.T) {
	good := item(1000, 1000, 10, 100)
	badRules := wideRules()
	badRules.HardnessPrice = -1
	seven := slices.Repeat([]api.CampaignItem{good}, 7)
	bad := item(0, 0, 0, 0)
	for i, x := range []struct {
		r    api.CampaignRules
		l    []api.CampaignItem
		want api.Errno
	}{
		{badRules, nil, api.ErrRange}, {badRules, []api.CampaignItem{good}, api.ErrRange},
		{wideRules(), nil, api.ErrShape}, {wideRules(), []api.CampaignItem{}, api.ErrShape},
		{wideRules(), append(slices.Clone(seven), good), api.ErrLarge}, {wideRules(), slices.Repeat([]api.CampaignItem{bad}, 8), api.ErrLarge},
		{wideRules(), []api.CampaignItem{good, bad}, api.ErrRange},
		{wideRules(), []api.CampaignItem{item(499, 1000, 10, 100)}, api.ErrRange}, {wideRules(), []api.CampaignItem{item(2501, 1000, 10, 100)}, api.ErrRange},
		{wideRules(), []api.CampaignItem{item(1000, 0, 10, 100)}, api.ErrRange}, {wideRules(), []api.CampaignItem{item(1000, 300001, 10, 100)}, api.ErrRange},
		{wideRules(), []api.CampaignItem{item(1000, 1000, 0, 100)}, api.ErrRange}, {wideRules(), []api.CampaignItem{item(1000, 1000, 100, 100)}, api.ErrRange},
		{wideRules(), []api.CampaignItem{item(1000, 1000, 10, 0)}, api.ErrRange}, {wideRules(), []api.CampaignItem{item(1000, 1000, 10, 10001)}, api.ErrRange},
		{wideRules(), []api.CampaignItem{item(math.MinInt, 1000, 10, 100)}, api.ErrRange}, {wideRules(), []api.CampaignItem{item(1000, 1000, 10, math.MaxInt)}, api.ErrRange},
	} {
		if l := sequenceErrors(t, x.r, x.l, []int{0}); !allAre(l, x.want) {
			t.Error(i, x, l)
		}
		if l := sequenceErrors(t, x.r, x.l, []int{-1}); !allAre(l, x.want) {
			t.Error(i, x, l)
		}
		if l := itemErrors(t, x.r, x.l); !allAre(l, x.want) {
			t.Error(i, x, l)
		}
	}
	for _, l := range [][]api.CampaignItem{seven, {item(500, 1, 1, 1)}, {item(2500, 300000, 99, 10000)}} {
		if _, e := campaign.CostOf(wideRules(), l, nil); e != api.OK {
			t.Error(l, e)
		}
		if _, _, e := campaign.Cheapest(wideRules(), l); e != api.OK {
			t.Error(l, e)
		}
		if _, e := campaign.BoundOf(wideRules(), l, make([]int, len(l))); e != api.OK {
			t.Error(l, e)
		}
		if _, e := campaign.Contradicting(wideRules(), l); e != api.ErrNone {
			t.Error(l, e)
		}
	}
}

func TestP1_5ErrorsOfSequences(t *testing.T) {
	for _, x := range []struct {
		s    []int
		want api.Errno
	}{
		{[]int{3}, api.ErrMissing}, {[]int{-1}, api.ErrMissing}, {[]int{math.MaxInt}, api.ErrMissing}, {[]int{math.MinInt}, api.ErrMissing},
		{[]int{0, 0}, api.ErrDouble}, {[]int{0, 1, 0}, api.ErrDouble}, {[]int{0, 3, 0}, api.ErrMissing}, {[]int{0, 0, 3}, api.ErrDouble}, {[]int{3, 3}, api.ErrMissing}, {[]int{2, 2}, api.ErrDouble}, {[]int{2, 3}, api.ErrMissing}, {[]int{0, 1, 2, 0}, api.ErrDouble},
	} {
		if l := sequenceErrors(t, exampleRules(), exampleItems(), x.s); !allAre(l, x.want) {
			t.Error(x, l)
		}
	}
}

func TestP1_5ViolationOf(t *testing.T) {
	r := exampleRules()
	for _, x := range []struct {
		s    []int
		want api.CampaignViolation
		err  api.Errno
	}{
		{[]int{1, 0, 2}, api.CampaignViolation{}, api.ErrNone},
		{nil, api.CampaignViolation{}, api.ErrNone}, {[]int{2}, api.CampaignViolation{}, api.ErrNone}, {[]int{1, 0}, api.CampaignViolation{}, api.ErrNone},
		{[]int{0, 1, 2}, api.CampaignViolation{Position: 1, Rule: api.CampaignCoffin}, api.OK},
		{[]int{2, 0, 1}, api.CampaignViolation{Position: 1, Rule: api.CampaignWidth}, api.OK},
		{[]int{2, 1, 0}, api.CampaignViolation{Position: 2, Rule: api.CampaignCoffin}, api.OK},
		{[]int{1, 2, 0}, api.CampaignViolation{Position: 1, Rule: api.CampaignCoffin}, api.OK},
	} {
		if v, e := campaign.ViolationOf(r, exampleItems(), x.s); e != x.err || v != x.want {
			t.Error(x, v, e)
		}
	}
}

// TestP1_5LimitsOfRules has, for each rule, a pair that is just within it, and one
// that is not.
func TestP1_5LimitsOfRules(t *testing.T) {
	a := item(1000, 5000, 50, 600)
	for i, x := range []struct {
		b    api.CampaignItem
		rule int
		set  func(r *api.CampaignRules, n int)
		most int
	}{
		{item(1080, 5000, 50, 400), api.CampaignWidth, func(r *api.CampaignRules, n int) { r.Opening, r.WidthUp = 2, n }, 80},
		{item(920, 5000, 50, 400), api.CampaignWidth, func(r *api.CampaignRules, n int) { r.WidthDown = n }, 80},
		{item(1000, 5300, 50, 400), api.CampaignThickness, func(r *api.CampaignRules, n int) { r.ThicknessJump = n }, 300},
		{item(1000, 4700, 50, 400), api.CampaignThickness, func(r *api.CampaignRules, n int) { r.ThicknessJump = n }, 300},
		{item(1000, 5000, 57, 400), api.CampaignHardness, func(r *api.CampaignRules, n int) { r.HardnessJump = n }, 7},
		{item(1000, 5000, 43, 400), api.CampaignHardness, func(r *api.CampaignRules, n int) { r.HardnessJump = n }, 7},
		{item(1000, 5000, 50, 400), api.CampaignMetres, func(r *api.CampaignRules, n int) { r.Metres = n }, 1000},
	} {
		l := []api.CampaignItem{a, x.b}
		r := wideRules()
		x.set(&r, x.most)
		if v, e := campaign.ViolationOf(r, l, []int{0, 1}); e != api.ErrNone {
			t.Error(i, v, e)
		}
		x.set(&r, x.most-1)
		if v, e := campaign.ViolationOf(r, l, []int{0, 1}); e != api.OK || v != (api.CampaignViolation{Position: 1, Rule: x.rule}) {
			t.Error(i, v, e)
		}
	}
	r := wideRules()
	r.Metres = 599
	if v, e := campaign.ViolationOf(r, []api.CampaignItem{a}, []int{0}); e != api.OK || v != (api.CampaignViolation{Position: 0, Rule: api.CampaignMetres}) {
		t.Error("an item alone has too many metres", v, e)
	}
	r.Metres = 600
	if v, e := campaign.ViolationOf(r, []api.CampaignItem{a}, []int{0}); e != api.ErrNone {
		t.Error(v, e)
	}
}

// TestP1_5Coffin goes through widths that grow, stay and shrink.
func TestP1_5Coffin(t *testing.T) {
	l := []api.CampaignItem{item(1000, 1, 1, 1), item(1010, 1, 1, 1), item(1020, 1, 1, 1), item(1020, 1, 1, 1)}
	for _, x := range []struct {
		opening int
		s       []int
		at      int // -1: it holds
	}{
		{0, []int{0, 1}, 1}, {1, []int{0, 1}, 1}, {2, []int{0, 1}, -1}, {0, []int{1, 0}, -1}, {1, []int{1, 0}, -1}, {2, []int{1, 0}, 1},
		{0, []int{2, 3, 1, 0}, -1}, {2, []int{2, 3, 1, 0}, -1}, {3, []int{2, 3, 1, 0}, 2}, {4, []int{2, 3, 1, 0}, 2},
		{2, []int{0, 1, 2}, 2}, {3, []int{0, 1, 2, 3}, -1}, {4, []int{0, 1, 2, 3}, -1}, {7, []int{0, 1, 2, 3}, -1}, {2, []int{0, 1, 2, 3}, 2},
		{0, []int{2, 3}, -1}, {7, []int{2, 3}, -1}, {3, []int{0, 2, 3, 1}, -1}, {4, []int{0, 2, 3, 1}, 3}, {2, []int{1, 2, 0, 3}, 3}, {7, []int{1, 2, 0, 3}, 2},
	} {
		r := wideRules()
		r.Opening = x.opening
		v, e := campaign.ViolationOf(r, l, x.s)
		if x.at < 0 && e != api.ErrNone || x.at >= 0 && (e != api.OK || v != (api.CampaignViolation{Position: x.at, Rule: api.CampaignCoffin})) {
			t.Error(x, v, e)
		}
	}
}

// TestP1_5LeastChanges has limits of 0, which permit no change at all, however
// small it is.
func TestP1_5LeastChanges(t *testing.T) {
	for i, x := range []struct {
		width, thickness, hardness int
		opening                    int
		rule                       int
		set                        func(r *api.CampaignRules)
	}{
		{1001, 1000, 10, 0, api.CampaignCoffin, func(r *api.CampaignRules) {}},
		{1001, 1000, 10, 1, api.CampaignCoffin, func(r *api.CampaignRules) {}},
		{999, 1000, 10, 2, api.CampaignCoffin, func(r *api.CampaignRules) {}},
		{1001, 1000, 10, 2, api.CampaignWidth, func(r *api.CampaignRules) { r.WidthUp = 0 }},
		{999, 1000, 10, 0, api.CampaignWidth, func(r *api.CampaignRules) { r.WidthDown = 0 }},
		{1000, 1001, 10, 0, api.CampaignThickness, func(r *api.CampaignRules) { r.ThicknessJump = 0 }},
		{1000, 999, 10, 0, api.CampaignThickness, func(r *api.CampaignRules) { r.ThicknessJump = 0 }},
		{1000, 1000, 11, 0, api.CampaignHardness, func(r *api.CampaignRules) { r.HardnessJump = 0 }},
		{1000, 1000, 9, 0, api.CampaignHardness, func(r *api.CampaignRules) { r.HardnessJump = 0 }},
	} {
		r := wideRules()
		r.Opening = x.opening
		x.set(&r)
		l := []api.CampaignItem{item(1000, 1000, 10, 1), item(x.width, x.thickness, x.hardness, 1), item(1000, 1000, 10, 1)}
		if v, e := campaign.ViolationOf(r, l, []int{0, 1}); e != api.OK || v != (api.CampaignViolation{Position: 1, Rule: x.rule}) {
			t.Error(i, v, e)
		}
		if v, e := campaign.ViolationOf(r, l, []int{0, 2}); e != api.ErrNone {
			t.Error("equal items", i, v, e)
		}
	}
}

// TestP1_5FirstRule mends one violation at a position after the other.
func TestP1_5FirstRule(t *testing.T) {
	l := []api.CampaignItem{item(1000, 1000, 10, 500), item(1200, 3000, 30, 501)}
	r := api.CampaignRules{Metres: 1000}
	for _, x := range []struct {
		rule int
		mend func()
	}{
		{api.CampaignMetres, func() { r.Metres = 1001 }},
		{api.CampaignCoffin, func() { r.Opening = 2 }},
		{api.CampaignWidth, func() { r.WidthUp = 200 }},
		{api.CampaignThickness, func() { r.ThicknessJump = 2000 }},
		{api.CampaignHardness, func() { r.HardnessJump = 20 }},
	} {
		if v, e := campaign.ViolationOf(r, l, []int{0, 1}); e != api.OK || v != (api.CampaignViolation{Position: 1, Rule: x.rule}) {
			t.Error(x.rule, v, e)
		}
		x.mend()
	}
	if v, e := campaign.ViolationOf(r, l, []int{0, 1}); e != api.ErrNone {
		t.Error(v, e)
	}
}

func TestP1_5ViolationsByTable(t *testing.T) {
	rnd := rand.New(rand.NewSource(5))
	var found [api.CampaignRuleKinds]int
	held := 0
	for range 5000 {
		n := 1 + rnd.Intn(7)
		r, l := randomMix(rnd, n)
		s := rnd.Perm(n)[:rnd.Intn(n+1)]
		want, violated := violationByTable(r, l, s)
		v, e := campaign.ViolationOf(r, l, s)
		if violated != (e == api.OK) || !violated && e != api.ErrNone || v != want {
			t.Fatal(r, l, s, v, want, e)
		}
		if violated {
			found[v.Rule]++
		} else {
			held++
		}
		if cost, e := campaign.CostOf(r, l, s); e != api.OK || cost != sequenceCost(r, l, s) {
			t.Fatal(r, l, s, cost, e)
		}
	}
	if held == 0 || slices.Contains(found[:], 0) {
		t.Error("not everything was tried", held, found)
	}
}

func TestP1_5CostOf(t *testing.T) {
	prices := exampleRules()
	prices.WidthPrice, prices.ThicknessPrice, prices.HardnessPrice = 3, 5, 7
	dear := wideRules()
	dear.WidthPrice, dear.ThicknessPrice, dear.HardnessPrice = 10000, 10000, 10000
	far := []api.CampaignItem{item(500, 1, 1, 1), item(2500, 300000, 99, 1), item(500, 1, 1, 1), item(2500, 300000, 99, 1)}
	for _, x := range []struct {
		r    api.CampaignRules
		l    []api.CampaignItem
		s    []int
		want int
	}{
		{exampleRules(), exampleItems(), []int{1, 0, 2}, 270}, {exampleRules(), exampleItems(), []int{0, 1}, 110}, {exampleRules(), exampleItems(), []int{0, 2}, 160}, {exampleRules(), exampleItems(), []int{1, 2}, 70},
		{exampleRules(), exampleItems(), nil, 0}, {exampleRules(), exampleItems(), []int{2}, 0},
		{exampleRules(), exampleItems(), []int{0, 1, 2}, 180},
		{prices, exampleItems(), []int{0, 1, 2}, 3*100 + 5*500 + 7 + 3*50 + 5*900 + 14},
		{dear, far, []int{0, 1, 2, 3}, 3 * 10000 * (2000 + 299999 + 98)},
	} {
		if cost, e := campaign.CostOf(x.r, x.l, x.s); e != api.OK || cost != x.want {
			t.Error(x, cost, e)
		}
	}
}

func TestP1_10Reversed(t *testing.T) {
	rnd := rand.New(rand.NewSource(10))
	for range 500 {
		n := 1 + rnd.Intn(7)
		r, l := randomMix(rnd, n)
		s := rnd.Perm(n)
		back := slices.Clone(s)
		slices.Reverse(back)
		cost, e := campaign.CostOf(r, l, s)
		reversed, f := campaign.CostOf(r, l, back)
		if e != api.OK || f != api.OK || cost != reversed {
			t.Fatal(r, l, s, cost, reversed)
		}
		for k := range s {
			if begun, e := campaign.CostOf(r, l, s[:k]); e != api.OK || begun > cost {
				t.Fatal(r, l, s, k, begun, cost)
			}
		}
	}
}

func TestP1_11Beginnings(t *testing.T) {
	rnd := rand.New(rand.NewSource(11))
	held := 0
	for range 5000 {
		n := 2 + rnd.Intn(4)
		r, l := randomMix(rnd, n)
		s := rnd.Perm(n)
		if _, e := campaign.ViolationOf(r, l, s); e != api.ErrNone {
			continue
		}
		held++
		for k := range s {
			if v, e := campaign.ViolationOf(r, l, s[:k]); e != api.ErrNone {
				t.Fatal(r, l, s, k, v, e)
			}
		}
	}
	if held == 0 {
		t.Error("no sequence held")
	}
}

func TestP1_13WiderRules(t *testing.T) {
	rnd := rand.New(rand.NewSource(13))
	held := 0
	for range 1500 {
		n := 1 + rnd.Intn(5)
		r, l := randomMix(rnd, n)
		s, cost, e := campaign.Cheapest(r, l)
		if e != api.OK {
			continue
		}
		held++
		for _, widen := range []func(r *api.CampaignRules){
			func(r *api.CampaignRules) { r.WidthUp += 40 }, func(r *api.CampaignRules) { r.WidthDown += 40 },
			func(r *api.CampaignRules) { r.ThicknessJump += 600 }, func(r *api.CampaignRules) { r.HardnessJump++ },
			func(r *api.CampaignRules) { r.Metres += 500 },
		} {
			wider := r
			widen(&wider)
			if v, e := campaign.ViolationOf(wider, l, s); e != api.ErrNone {
				t.Fatal(r, wider, l, s, v, e)
			}
			if _, less, e := campaign.Cheapest(wider, l); e != api.OK || less > cost {
				t.Fatal(r, wider, l, less, cost, e)
			}
		}
	}
	if held == 0 {
		t.Error("no sequence held")
	}
}
