package cool_test

import (
	"math"
	"math/rand"
	"slices"
	"testing"

	"cobble/api"
	"cobble/cool"
)

// commandsCase is commands of one bank, and the error.
type commandsCase struct {
	l    []api.Range
	want api.Errno
}

func commandsCases() []commandsCase {
	// These are as many ranges as there may be, and one more; there is no room for them in order.
	most, more := slices.Repeat(ranges(0, 0), 20), slices.Repeat(ranges(0, 0), 21)
	var every []api.Range
	for tick := 0; tick <= 30; tick += 2 {
		every = append(every, ends(tick, tick))
	}
	return []commandsCase{
		{nil, api.OK}, {ranges(0, 0), api.OK}, {ranges(0, 30), api.OK}, {ranges(30, 30), api.OK}, {ranges(0, 1, 3, 3, 5, 9), api.OK}, {ranges(0, 28, 30, 30), api.OK}, {every, api.OK},
		{more, api.ErrLarge}, {with(more, 0, ends(-1, 0)), api.ErrLarge}, {most, api.ErrOrder}, {with(most, 0, ends(-1, 0)), api.ErrRange}, {with(most, 19, ends(-1, 0)), api.ErrOrder},
		{ranges(-1, 0), api.ErrRange}, {ranges(0, 31), api.ErrRange}, {ranges(31, 31), api.ErrRange}, {ranges(-1, -1), api.ErrRange}, {ranges(31, 0), api.ErrRange}, {ranges(0, -1), api.ErrRange}, {ranges(math.MinInt, 0), api.ErrRange}, {ranges(0, math.MaxInt), api.ErrRange}, {ranges(0, 0, 2, 31), api.ErrRange}, {ranges(0, 0, 2, 2, math.MinInt, math.MaxInt), api.ErrRange}, {ranges(5, 30, 0, 31), api.ErrRange}, {ranges(0, math.MaxInt, 3, 3), api.ErrRange},
		{ranges(1, 0), api.ErrOrder}, {ranges(30, 0), api.ErrOrder}, {ranges(0, 0, 3, 2), api.ErrOrder}, {ranges(0, 1, 2, 3), api.ErrOrder}, {ranges(0, 0, 0, 0), api.ErrOrder}, {ranges(0, 0, 1, 1), api.ErrOrder}, {ranges(0, 5, 3, 9), api.ErrOrder}, {ranges(5, 6, 1, 2), api.ErrOrder}, {ranges(5, 6, 2, 9), api.ErrOrder}, {ranges(0, 28, 29, 30), api.ErrOrder}, {ranges(0, 0, 2, 2, 3, 3), api.ErrOrder}, {ranges(1, 0, -1, 0), api.ErrOrder}, {ranges(0, 0, 1, 1, 31, 31), api.ErrOrder},
	}
}

// TestP8_3TableHasNoIndex has tables whose own index is that of a later bank, too: only
// wrong commands have an index in CheckPlan.
func TestP8_3TableHasNoIndex(t *testing.T) {
	later := 0
	for i, x := range tableCases() {
		for j, p := range []api.CoolPlan{{Commands: make([][]api.Range, len(x.t.Banks))}, {}, plan(nil, ranges(31, 31))} {
			if at, e := cool.CheckPlan(x.t, p); x.want != api.OK && (at != 0 || e != x.want) {
				t.Error(i, j, at, e)
			}
		}
		if x.at > 0 {
			later++
		}
	}
	if later < 3 {
		t.Error("too few tables with a wrong later bank", later)
	}
	good := bank(0, 0, 0)
	for i, x := range []struct {
		t    api.CoolTable
		p    api.CoolPlan
		want api.Errno
	}{
		{table(0, 0, good, bank(1, 0, 0)), plan(), api.ErrOrder}, {table(0, 0, good, bank(1, 0, 0)), plan(nil, nil), api.ErrOrder}, {table(0, 0, good, good, bank(0, 0, 9)), api.CoolPlan{}, api.ErrRange},
		{table(0, 0, good, bank(1, 0, 0)), plan(nil, ranges(31, 31)), api.ErrOrder}, {table(0, 0, good, good, good, bank(-1, 0, 0)), plan(nil, ranges(1, 0), nil, nil), api.ErrRange},
	} {
		if at, e := cool.CheckPlan(x.t, x.p); at != 0 || e != x.want {
			t.Error(i, at, e)
		}
	}
}

func TestP8_3CheckPlan(t *testing.T) {
	for i, x := range tableCases() {
		if at, e := cool.CheckPlan(x.t, api.CoolPlan{Commands: make([][]api.Range, len(x.t.Banks))}); at != 0 || e != x.want {
			t.Error(i, at, e)
		}
	}
	for i, x := range commandsCases() {
		for b := range 4 {
			four := table(0, 0, bank(0, 0, 0), bank(0, 0, 0), bank(0, 0, 8), bank(0, 0, 0))
			p := plan(ranges(0, 30), nil, ranges(0, 0, 2, 2), ranges(7, 8))
			p.Commands[b] = x.l
			want := b
			if x.want == api.OK {
				want = 0
			}
			if at, e := cool.CheckPlan(four, p); at != want || e != x.want {
				t.Error(i, b, at, e)
			}
			if l, e := cool.SetsOf(four, p, 1); e != x.want || e != api.OK && l != nil {
				t.Error(i, b, l, e)
			}
		}
	}
}

func TestP8_3PlanShapes(t *testing.T) {
	wrong := ranges(1, 0)
	for i, x := range []struct {
		p    api.CoolPlan
		at   int
		want api.Errno
	}{
		{examplePlan(), 0, api.OK}, {plan(nil, nil), 0, api.OK},
		{plan(), 0, api.ErrShape}, {plan(wrong), 0, api.ErrShape}, {plan(nil, nil, wrong), 0, api.ErrShape}, {plan(nil, nil, nil, nil, nil), 0, api.ErrShape},
		{plan(wrong, ranges(31, 31)), 0, api.ErrOrder}, {plan(nil, wrong), 1, api.ErrOrder}, {plan(ranges(31, 31), wrong), 0, api.ErrRange},
	} {
		if at, e := cool.CheckPlan(exampleTable(), x.p); at != x.at || e != x.want {
			t.Error(i, at, e)
		}
	}
}

func TestP8_3SetsOf(t *testing.T) {
	always := plan(ranges(0, 30), ranges(0, 30))
	for i, x := range []struct {
		p     api.CoolPlan
		count int
		want  []int
		err   api.Errno
	}{
		{examplePlan(), 3, numbers(0, 2, 2), api.OK}, {examplePlan(), 1, numbers(0), api.OK}, {examplePlan(), 5, numbers(0, 2, 2, 0, 0), api.OK}, {plan(nil, nil), 2, numbers(0, 0), api.OK},
		{always, 12, numbers(1, 3, 3, 3, 3, 3, 3, 3, 3, 3, 3, 3), api.OK}, {plan(ranges(1, 1, 3, 4), ranges(2, 3)), 6, numbers(0, 1, 0, 3, 3, 0), api.OK},
		{plan(ranges(12, 30), ranges(11, 30)), 12, repeated(0, 12), api.OK}, {plan(ranges(11, 11), ranges(10, 10)), 12, with(repeated(0, 12), 11, 3), api.OK},
		{examplePlan(), 0, nil, api.ErrRange}, {examplePlan(), 13, nil, api.ErrRange}, {examplePlan(), -1, nil, api.ErrRange}, {examplePlan(), math.MinInt, nil, api.ErrRange}, {examplePlan(), math.MaxInt, nil, api.ErrRange},
		{plan(nil), 0, nil, api.ErrShape}, {plan(nil, ranges(1, 0)), 13, nil, api.ErrOrder},
	} {
		if l, e := cool.SetsOf(exampleTable(), x.p, x.count); !alike(l, x.want) || e != x.err {
			t.Error(i, l, e)
		}
	}
	for i, x := range tableCases() {
		if _, e := cool.SetsOf(x.t, api.CoolPlan{}, 0); x.want != api.OK && e != x.want || x.want == api.OK && e != api.ErrShape {
			t.Error(i, e)
		}
	}
}

// setsCase is sets for the table of the examples, and the error.
type setsCase struct {
	sets []int
	want api.Errno
}

func setsCases() []setsCase {
	return []setsCase{
		{numbers(0), api.OK}, {numbers(1), api.OK}, {numbers(1, 3, 0), api.OK}, {exampleSets(), api.OK}, {repeated(0, 12), api.OK}, {repeated(1, 12), api.OK},
		{nil, api.ErrShape}, {repeated(0, 13), api.ErrLarge}, {repeated(-1, 13), api.ErrLarge},
		{numbers(-1), api.ErrRange}, {numbers(4), api.ErrRange}, {numbers(0, 4), api.ErrRange}, {numbers(0, 3, math.MinInt), api.ErrRange}, {numbers(math.MaxInt, 0), api.ErrRange}, {numbers(5), api.ErrRange},
		{numbers(2), api.ErrRefused}, {numbers(3, 3), api.ErrRefused}, {numbers(2, 4), api.ErrRefused}, {numbers(4, 2), api.ErrRange},
	}
}

func TestP8_3PlanOfErrors(t *testing.T) {
	for i, x := range setsCases() {
		if p, e := cool.PlanOf(exampleTable(), x.sets); e != x.want || e != api.OK && p.Commands != nil {
			t.Error(i, p, e)
		}
	}
	for i, x := range tableCases() {
		if _, e := cool.PlanOf(x.t, nil); x.want != api.OK && e != x.want || x.want == api.OK && e != api.ErrShape {
			t.Error(i, e)
		}
	}
}

func TestP8_3PlanOf(t *testing.T) {
	late := table(0, 0, bank(0, 0, 8), bank(0, 0, 8), bank(0, 0, 0), bank(0, 0, 1))
	for i, x := range []struct {
		t    api.CoolTable
		sets []int
		want api.CoolPlan
	}{
		{exampleTable(), exampleSets(), examplePlan()}, {exampleTable(), numbers(0), plan(nil, nil)}, {exampleTable(), numbers(1), plan(ranges(0, 0), nil)}, {exampleTable(), numbers(1, 3, 1, 2), plan(ranges(0, 2), ranges(0, 0, 2, 2))}, {exampleTable(), repeated(1, 12), plan(ranges(0, 11), nil)},
		{exampleTable(), numbers(1, 0, 1, 0, 1, 0, 1, 0, 1, 0, 1, 0), plan(ranges(0, 0, 2, 2, 4, 4, 6, 6, 8, 8, 10, 10), nil)}, {exampleTable(), numbers(0, 0, 0, 1, 1, 0, 0, 1, 1, 0, 0, 0), plan(ranges(3, 4, 7, 8), nil)},
		{late, with(repeated(0, 12), 11, 15), plan(ranges(3, 3), ranges(4, 4), ranges(13, 13), ranges(13, 13))}, {late, numbers(12, 4, 0, 0, 0, 0, 0, 2, 3, 1), plan(ranges(0, 1), ranges(0, 1), ranges(2, 3), ranges(2, 2))},
	} {
		if p, e := cool.PlanOf(x.t, x.sets); !alike(p, x.want) || e != api.OK {
			t.Error(i, p, e)
		}
	}
}

func TestP8_3SetsByHand(t *testing.T) {
	rnd := rand.New(rand.NewSource(83))
	open := 0
	for range 5000 {
		x := randomTable(rnd, api.MaxCoolBanks, api.MaxCoolDelay)
		p, count := randomPlan(rnd, x), randomFrom(rnd, 1, api.MaxCoolSegments)
		if at, e := cool.CheckPlan(x, p); at != 0 || e != api.OK {
			t.Fatal(x, p, at, e)
		}
		sets, e := cool.SetsOf(x, p, count)
		if !alike(sets, setsByHand(x, p, count)) || e != api.OK {
			t.Fatal(x, p, count, sets, e)
		}
		if slices.Max(sets) > 0 {
			open++
		}
	}
	if open < 1000 {
		t.Error("too few plans open banks", open)
	}
}

// TestP8_3PlansByHand wants that each tick is necessary, and that ranges are as long as
// they can be.
func TestP8_3PlansByHand(t *testing.T) {
	rnd := rand.New(rand.NewSource(830))
	several := 0
	for range 2000 {
		x := randomTable(rnd, api.MaxCoolBanks, api.MaxCoolDelay)
		sets := randomAvailableSets(rnd, x, randomFrom(rnd, 1, api.MaxCoolSegments))
		p, e := cool.PlanOf(x, sets)
		if e != api.OK {
			t.Fatal(x, sets, e)
		}
		if at, e := cool.CheckPlan(x, p); at != 0 || e != api.OK {
			t.Fatal(x, sets, p, at, e)
		}
		for b, l := range p.Commands {
			for _, tick := range ticksOf(l) {
				var others []api.Range
				for _, n := range ticksOf(l) {
					if n != tick {
						others = append(others, ends(n, n))
					}
				}
				if alike(setsByHand(x, plan(with(p.Commands, b, others)...), len(sets)), sets) {
					t.Fatal("a tick is not necessary", x, sets, p, b, tick)
				}
			}
			if len(l) > 1 {
				several++
			}
		}
	}
	if several < 100 {
		t.Error("too few banks have several ranges", several)
	}
}

func TestP8_12ThereAndBack(t *testing.T) {
	rnd := rand.New(rand.NewSource(812))
	less := 0
	for range 5000 {
		x, count := randomTable(rnd, api.MaxCoolBanks, api.MaxCoolDelay), randomFrom(rnd, 1, api.MaxCoolSegments)
		sets := randomAvailableSets(rnd, x, count)
		p, e := cool.PlanOf(x, sets)
		back, f := cool.SetsOf(x, p, count)
		if !alike(back, sets) || e != api.OK || f != api.OK {
			t.Fatal(x, sets, p, back, e, f)
		}
		p = randomPlan(rnd, x)
		sets, e = cool.SetsOf(x, p, count)
		q, f := cool.PlanOf(x, sets)
		if e != api.OK || f != api.OK {
			t.Fatal(x, p, sets, q, e, f)
		}
		for b, l := range q.Commands {
			ticks, all := ticksOf(l), ticksOf(p.Commands[b])
			if slices.ContainsFunc(ticks, func(tick int) bool { return !slices.Contains(all, tick) }) {
				t.Fatal(x, p, sets, q, b)
			}
			if len(ticks) > 0 && len(ticks) < len(all) {
				less++
			}
		}
	}
	if less < 1000 {
		t.Error("too few plans have ticks at which no segment passes", less)
	}
}
