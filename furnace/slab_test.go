package furnace_test

import (
	"math/rand"
	"slices"
	"testing"

	"cobble/api"
	"cobble/furnace"
)

func TestP2_2CheckRules(t *testing.T) {
	for _, c := range []struct {
		change func(r *api.FurnaceRules)
		want   api.Errno
	}{
		{func(r *api.FurnaceRules) {}, api.OK},
		{func(r *api.FurnaceRules) { r.Table.Points = nil }, api.ErrShape},
		{func(r *api.FurnaceRules) { r.Table = tableOf(0, 0, 1, 2) }, api.ErrBreak},
		{func(r *api.FurnaceRules) { r.Mix = 0 }, api.OK},
		{func(r *api.FurnaceRules) { r.Mix = 50 }, api.OK},
		{func(r *api.FurnaceRules) { r.Mix = -1 }, api.ErrRange},
		{func(r *api.FurnaceRules) { r.Mix = 51 }, api.ErrRange},
		{func(r *api.FurnaceRules) { r.Emissivity = ends(0, 1000) }, api.OK},
		{func(r *api.FurnaceRules) { r.Emissivity = ends(500, 500) }, api.OK},
		{func(r *api.FurnaceRules) { r.Emissivity = ends(501, 500) }, api.ErrOrder},
		{func(r *api.FurnaceRules) { r.Emissivity = ends(-1, 500) }, api.ErrRange},
		{func(r *api.FurnaceRules) { r.Emissivity = ends(400, 1001) }, api.ErrRange},
		{func(r *api.FurnaceRules) { r.Emissivity = ends(1001, 500) }, api.ErrRange},
		{func(r *api.FurnaceRules) { r.Emissivity = ends(400, -1) }, api.ErrRange},
	} {
		r := exampleRules()
		c.change(&r)
		if e := furnace.CheckRules(r); e != c.want {
			t.Errorf("%v: %v in place of %v", r, e, c.want)
		}
	}
	r := api.FurnaceRules{Mix: -1, Emissivity: ends(500, 400)}
	wantErrors(t, func() api.Errno { return furnace.CheckRules(r) },
		step{api.ErrShape, func() { r.Table = exampleTable() }},
		step{api.ErrRange, func() { r.Mix = 0 }},
		step{api.ErrOrder, func() { r.Emissivity.Lo = 0 }})
}

func TestP2_2CheckSlab(t *testing.T) {
	for _, c := range []struct {
		slab api.FurnaceSlab
		want api.Errno
	}{
		{exampleSlab(), api.OK},
		{slab(500), api.ErrShape},
		{slab(500, 1), api.ErrShape},
		{slab(500, -1), api.ErrShape},
		{slab(500, 1, 2), api.OK},
		{slab(0, 0, 20000), api.OK},
		{slab(1000, 20000, 0), api.OK},
		{slab(500, 1, 2, 3, 4, 5, 6, 7, 8), api.OK},
		{slab(500, 1, 2, 3, 4, 5, 6, 7, 8, 9), api.ErrLarge},
		{slab(-1, -1, 2, 3, 4, 5, 6, 7, 8, 9), api.ErrLarge},
		{slab(500, -1, 2), api.ErrRange},
		{slab(500, 1, 20001), api.ErrRange},
		{slab(500, 1, 20001, 2), api.ErrRange},
		{slab(-1, 1, 2), api.ErrRange},
		{slab(1001, 1, 2), api.ErrRange},
	} {
		if e := furnace.CheckSlab(c.slab); e != c.want {
			t.Errorf("%v: %v in place of %v", c.slab, e, c.want)
		}
	}
}

func TestP2_2MeanOf(t *testing.T) {
	for _, c := range []struct {
		slab     api.FurnaceSlab
		num, den int
		want     api.Errno
	}{
		{slab(0, 567, 522, 635), 1724, 3, api.OK},
		{slab(1000, 635, 530, 635), 600, 1, api.OK},
		{slab(0, 0, 0), 0, 1, api.OK},
		{slab(0, 0, 0, 0, 0, 0, 0, 0, 0), 0, 1, api.OK},
		{slab(0, 1, 0), 1, 2, api.OK},
		{slab(0, 1, 0, 0, 0, 0, 1), 1, 3, api.OK},
		{slab(0, 3, 3, 3, 0, 0, 0), 3, 2, api.OK},
		{slab(0, 20000, 20000, 20000, 20000, 20000, 20000, 20000, 20000), 20000, 1, api.OK},
		{slab(0, 1, 1, 1, 1, 1, 1, 0, 0), 3, 4, api.OK},
		{slab(0, 1), 0, 0, api.ErrShape},
		{slab(0, 1, 20001), 0, 0, api.ErrRange},
		{slab(1001, 1, 2), 0, 0, api.ErrRange},
		{slab(0, 1, 2, 3, 4, 5, 6, 7, 8, 9), 0, 0, api.ErrLarge},
	} {
		if m, e := furnace.MeanOf(c.slab); m != (api.Frac{Num: c.num, Den: c.den}) || e != c.want {
			t.Errorf("%v: %v %v", c.slab, m, e)
		}
	}
}

func TestP2_3Heated(t *testing.T) {
	cold := exampleRules()
	cold.Mix = 0
	full := exampleRules()
	full.Mix = 50
	flat := exampleRules()
	flat.Table = tableOf(700, 500)
	for _, c := range []struct {
		name            string
		rules           api.FurnaceRules
		slab            api.FurnaceSlab
		emissivity, set int
		nodes           []int
	}{
		{"example 2", exampleRules(), exampleSlab(), 500, 1500, []int{567, 522, 635}},
		{"example 3", exampleRules(), exampleSlab(), 400, 1500, []int{554, 518, 608}},
		{"example 4", exampleRules(), slab(1000, 500, 500, 500), 500, 1500, []int{635, 530, 635}},
		{"the lower node is the first one", cold, slab(0, 500, 500, 500), 500, 1500, []int{500, 500, 650}},
		{"two nodes are heated both", cold, slab(500, 500, 500), 500, 1500, []int{575, 650}},
		{"two nodes conduct to each other", exampleRules(), slab(500, 500, 500), 500, 1500, []int{582, 642}},
		{"the table of one point heats nothing", flat, slab(1000, 100, 2000), 1000, 20000, []int{290, 1810}},
		// G is 500 times (50 - 350) = -150000; with the Bottom 333 it is -49.95.
		{"a colder furnace cools", cold, slab(333, 1500, 1500, 1500), 500, 500, []int{1450, 1500, 1350}},
		// G is 1 times (100 - 101) = -1, of which a thousandth is rounded down.
		{"cooling is rounded down", cold, slab(1, 1002, 1002), 1, 1000, []int{1001, 1001}},
		// G is 1 times (101 - 100) = 1.
		{"heating is rounded down", cold, slab(1000, 1000, 1000), 1, 1002, []int{1000, 1000}},
		{"G is not rounded for the bottom before it is shared", cold, slab(999, 1000, 1000), 999, 1010, []int{1004, 1004}},
		{"the full mix", full, slab(0, 0, 100, 300), 0, 0, []int{50, 150, 200}},
		{"the emissivity may be outside the range", cold, slab(1000, 0, 0), 1000, 2000, []int{600, 600}},
		{"the emissivity 0", cold, slab(1000, 0, 7), 0, 2000, []int{0, 7}},
	} {
		s, e := furnace.Heated(c.rules, c.slab, api.FurnaceStep{Emissivity: c.emissivity, Set: c.set})
		if e != api.OK || !alikeSlabs(s, slab(c.slab.Bottom, c.nodes...)) {
			t.Errorf("%s: %v %v in place of %v", c.name, s, e, c.nodes)
		}
	}
}

func TestP2_3HeatedErrors(t *testing.T) {
	r, s, x := api.FurnaceRules{}, slab(-1), api.FurnaceStep{Emissivity: 1001, Set: -1}
	wantErrors(t, func() api.Errno {
		_, e := furnace.Heated(r, s, x)
		return e
	},
		step{api.ErrShape, func() { r = exampleRules(); r.Emissivity.Hi = 0 }},
		step{api.ErrOrder, func() { r = exampleRules() }},
		step{api.ErrShape, func() { s = exampleSlab(); s.Bottom = 2000 }},
		step{api.ErrRange, func() { s = exampleSlab() }},
		step{api.ErrRange, func() { x.Emissivity = 1000 }},
		step{api.ErrRange, func() { x.Set = 0 }})
	for _, x := range []api.FurnaceStep{{Emissivity: -1}, {Emissivity: 1001}, {Set: -1}, {Set: 20001}} {
		if l, e := furnace.Heated(exampleRules(), exampleSlab(), x); e != api.ErrRange || len(l.Nodes) != 0 {
			t.Error(x, l, e)
		}
	}
	for _, x := range []api.FurnaceStep{{Emissivity: 1000}, {Set: 20000}} {
		if _, e := furnace.Heated(exampleRules(), exampleSlab(), x); e != api.OK {
			t.Error(x, e)
		}
	}
}

func TestP2_3HeatedAtRandom(t *testing.T) {
	rnd := rand.New(rand.NewSource(2))
	for range 20000 {
		r, s := randomRules(rnd), randomSlab(rnd)
		emissivity, set := randomFrom(rnd, 0, 1000), randomFrom(rnd, 0, 20000)
		if x := mustHeat(t, r, s, emissivity, set); !alikeSlabs(x, steppedByHand(r, s, emissivity, set)) {
			t.Fatal(r, s, emissivity, set, x)
		}
	}
}

// TestP2_10Warmer compares slabs with the same Bottom and furnaces node by node.
func TestP2_10Warmer(t *testing.T) {
	rnd := rand.New(rand.NewSource(3))
	for range 20000 {
		r, s := randomRules(rnd), randomSlab(rnd)
		warm := slab(s.Bottom)
		for _, n := range s.Nodes {
			warm.Nodes = append(warm.Nodes, min(20000, n+max(0, rnd.Intn(40)-20)))
		}
		emissivity, set := randomFrom(rnd, 0, 1000), randomFrom(rnd, 0, 20000)
		hotter := min(20000, set+max(0, rnd.Intn(40)-20))
		a, b := mustHeat(t, r, s, emissivity, set), mustHeat(t, r, warm, emissivity, hotter)
		for i := range a.Nodes {
			if a.Nodes[i] > b.Nodes[i] {
				t.Fatal(r, s, warm, emissivity, set, hotter, a, b)
			}
		}
		coldest, warmest := min(set, slices.Min(s.Nodes)), max(set, slices.Max(s.Nodes))
		if slices.Min(a.Nodes) < coldest || slices.Max(a.Nodes) > warmest {
			t.Fatal(r, s, emissivity, set, a)
		}
	}
}

func TestP2_12Rest(t *testing.T) {
	rnd := rand.New(rand.NewSource(4))
	for range 2000 {
		r, s := randomRules(rnd), randomSlab(rnd)
		even := slab(s.Bottom, slices.Repeat([]int{s.Nodes[0]}, len(s.Nodes))...)
		if x := mustHeat(t, r, even, randomFrom(rnd, 0, 1000), s.Nodes[0]); !alikeSlabs(x, even) {
			t.Fatal(r, even, x)
		}
		r.Mix = 0
		if x := mustHeat(t, r, s, 0, randomFrom(rnd, 0, 20000)); !alikeSlabs(x, s) {
			t.Fatal(r, s, x)
		}
	}
}
