package furnace_test

import (
	"math/rand"
	"slices"
	"testing"

	"cobble/api"
	"cobble/furnace"
)

// wideFuel has zones whose numbers of sets are given; its sets are 100, 200, ...
func wideFuel(sets ...int) api.FurnaceFuel {
	x := api.FurnaceFuel{Target: ends(0, 20000)}
	for _, n := range sets {
		var l []int
		for i := range n {
			l = append(l, 100*(i+1))
		}
		x.Sets = append(x.Sets, l)
		x.Steps = append(x.Steps, 1)
		x.Prices = append(x.Prices, 1)
	}
	return x
}

// faultyFuels are fuels with an error, in the order in which they are listed.
func faultyFuels() []struct {
	change func(x *api.FurnaceFuel)
	want   api.Errno
} {
	return []struct {
		change func(x *api.FurnaceFuel)
		want   api.Errno
	}{
		{func(x *api.FurnaceFuel) { x.Sets, x.Steps, x.Prices = nil, nil, nil }, api.ErrShape},
		{func(x *api.FurnaceFuel) { x.Steps = nil }, api.ErrShape},
		{func(x *api.FurnaceFuel) { x.Steps = append(x.Steps, 1) }, api.ErrShape},
		{func(x *api.FurnaceFuel) { x.Prices = nil }, api.ErrShape},
		{func(x *api.FurnaceFuel) { x.Prices = append(x.Prices, 1) }, api.ErrShape},
		{func(x *api.FurnaceFuel) { *x = wideFuel(1, 1, 1, 1, 1, 1) }, api.ErrLarge},
		{func(x *api.FurnaceFuel) { *x = wideFuel(1, 1, 1, 1, 1, 1); x.Prices = nil }, api.ErrShape},
		{func(x *api.FurnaceFuel) { *x = wideFuel(0, 1, 1, 1, 1, 1) }, api.ErrLarge},
		{func(x *api.FurnaceFuel) { x.Sets[0] = nil }, api.ErrShape},
		{func(x *api.FurnaceFuel) { x.Sets[0] = []int{-1, 2, 3, 4, 5} }, api.ErrLarge},
		{func(x *api.FurnaceFuel) { x.Sets[0] = []int{-1, 2} }, api.ErrRange},
		{func(x *api.FurnaceFuel) { x.Sets[0] = []int{2, 20001} }, api.ErrRange},
		{func(x *api.FurnaceFuel) { x.Sets[0] = []int{2, 2} }, api.ErrOrder},
		{func(x *api.FurnaceFuel) { x.Sets[0] = []int{2, 1} }, api.ErrOrder},
		{func(x *api.FurnaceFuel) { x.Sets[0] = []int{2, 1, -1} }, api.ErrOrder},
		{func(x *api.FurnaceFuel) { x.Sets[0] = []int{2, -1} }, api.ErrRange},
		{func(x *api.FurnaceFuel) { x.Sets[0], x.Steps[0] = []int{2, 1}, 0 }, api.ErrOrder},
		{func(x *api.FurnaceFuel) { x.Steps[0] = 0 }, api.ErrRange},
		{func(x *api.FurnaceFuel) { x.Steps[0] = 201 }, api.ErrRange},
		{func(x *api.FurnaceFuel) { x.Prices[0] = -1 }, api.ErrRange},
		{func(x *api.FurnaceFuel) { x.Prices[0] = 1001 }, api.ErrRange},
		{func(x *api.FurnaceFuel) { x.Steps[0], x.Target = 0, ends(1, 0) }, api.ErrRange},
		{func(x *api.FurnaceFuel) { *x = wideFuel(1, 0); x.Steps[0] = 0 }, api.ErrRange},
		{func(x *api.FurnaceFuel) { *x = wideFuel(1, 0); x.Prices[1] = -1 }, api.ErrShape},
		{func(x *api.FurnaceFuel) { *x = wideFuel(1, 5); x.Steps[1] = 0 }, api.ErrLarge},
		{func(x *api.FurnaceFuel) { *x = wideFuel(1, 2); x.Sets[1][1] = 100; x.Steps[0] = 201 }, api.ErrRange},
		{func(x *api.FurnaceFuel) { x.Target.Lo = -1 }, api.ErrRange},
		{func(x *api.FurnaceFuel) { x.Target.Hi = 20001 }, api.ErrRange},
		{func(x *api.FurnaceFuel) { x.Target = ends(20001, 20000) }, api.ErrRange},
		{func(x *api.FurnaceFuel) { x.Target = ends(1, 0) }, api.ErrOrder},
	}
}

func TestP2_7FuelErrors(t *testing.T) {
	r, s := exampleRules(), exampleSlab()
	for i, c := range faultyFuels() {
		x := exampleFuel()
		c.change(&x)
		if n, e := furnace.FuelOf(x, nil); n != 0 || e != c.want {
			t.Error("FuelOf", i, n, e)
		}
		if l, n, e := furnace.CheapestSets(r, s, x); len(l) != 0 || n != 0 || e != c.want {
			t.Error("CheapestSets", i, l, n, e)
		}
		if p, e := furnace.FuelProofOf(r, s, x); len(p.Choice) != 0 || e != c.want {
			t.Error("FuelProofOf", i, p, e)
		}
		if l, e := furnace.CheckFuelProof(r, s, api.FurnaceClaim{Fuel: x}); len(l) != 0 || e != c.want {
			t.Error("CheckFuelProof", i, l, e)
		}
	}
}

func TestP2_7FuelOf(t *testing.T) {
	three := api.FurnaceFuel{Sets: [][]int{{0, 10}, {7}, {19999, 20000}}, Steps: []int{1, 200, 3}, Prices: []int{3, 0, 1000}, Target: ends(0, 0)}
	for _, c := range []struct {
		fuel   api.FurnaceFuel
		choice []int
		n      int
		want   api.Errno
	}{
		{exampleFuel(), []int{0}, 2000, api.OK},
		{exampleFuel(), []int{1}, 3000, api.OK},
		{exampleFuel(), []int{2}, 0, api.ErrMissing},
		{exampleFuel(), []int{-1}, 0, api.ErrMissing},
		{exampleFuel(), nil, 0, api.ErrShape},
		{exampleFuel(), []int{-1, 0}, 0, api.ErrShape},
		{three, []int{0, 0, 0}, 19999000, api.OK},
		{three, []int{1, 0, 1}, 20000030, api.OK},
		{three, []int{1, 1, 1}, 0, api.ErrMissing},
		{three, []int{1, 0, 2}, 0, api.ErrMissing},
		{three, []int{1, 0}, 0, api.ErrShape},
		{wideFuel(4, 4, 4, 4, 4), []int{3, 0, 1, 2, 3}, 1400, api.OK},
		{api.FurnaceFuel{}, []int{-1}, 0, api.ErrShape},
		{wideFuel(1, 5), []int{-1, 0}, 0, api.ErrLarge},
	} {
		if n, e := furnace.FuelOf(c.fuel, c.choice); n != c.n || e != c.want {
			t.Errorf("%v %v: %d %v in place of %d %v", c.fuel, c.choice, n, e, c.n, c.want)
		}
	}
}

func TestP2_7CheapestSets(t *testing.T) {
	r, s := exampleRules(), exampleSlab()
	if l, n, e := furnace.CheapestSets(r, s, exampleFuel()); e != api.OK || n != 3000 || !slices.Equal(l, []int{1}) {
		t.Error("example 7", l, n, e)
	}
	none := exampleFuel()
	none.Target.Lo = 600
	if l, n, e := furnace.CheapestSets(r, s, none); e != api.ErrNone || n != 0 || len(l) != 0 {
		t.Error("no choice is suitable", l, n, e)
	}
	if l, n, e := furnace.CheapestSets(r, s, wideFuel(2, 2)); e != api.OK || n != 200 || !slices.Equal(l, []int{0, 0}) {
		t.Error("all are suitable", l, n, e)
	}
	free := wideFuel(2, 2, 2)
	free.Prices = []int{0, 0, 0}
	if l, n, e := furnace.CheapestSets(r, s, free); e != api.OK || n != 0 || !slices.Equal(l, []int{0, 0, 0}) {
		t.Error("all cost the same", l, n, e)
	}
}

// TestP2_7Ends has a target whose ends are those of the enclosure.
func TestP2_7Ends(t *testing.T) {
	// The enclosure for 1500 is 554 to 567, 518 to 522, 608 to 635.
	for target, want := range map[api.Range]api.Errno{
		ends(518, 635): api.OK,
		ends(519, 635): api.ErrNone,
		ends(518, 634): api.ErrNone,
	} {
		x := exampleFuel()
		x.Target = target
		if l, n, e := furnace.CheapestSets(exampleRules(), exampleSlab(), x); e != want || e == api.OK && (n != 3000 || !slices.Equal(l, []int{1})) {
			t.Error(target, l, n, e)
		}
	}
}

// TestP2_7First has choices with the same fuel, of which the first one in
// lexicographic order is taken, and not the first that is found by another order.
func TestP2_7First(t *testing.T) {
	r := api.FurnaceRules{Table: tableOf(0, 0, 20000, 20000), Mix: 50, Emissivity: ends(100, 100)}
	s := slab(1000, 1000, 1000)
	x := api.FurnaceFuel{Sets: [][]int{{1000, 2000}, {1000, 2000}}, Steps: []int{1, 1}, Prices: []int{1, 1}, Target: ends(1050, 1150)}
	if l, n, e := furnace.CheapestSets(r, s, x); e != api.OK || n != 3000 || !slices.Equal(l, []int{0, 1}) {
		t.Error(l, n, e)
	}
	x.Prices = []int{1, 2}
	if l, n, e := furnace.CheapestSets(r, s, x); e != api.OK || n != 4000 || !slices.Equal(l, []int{1, 0}) {
		t.Error(l, n, e)
	}
}

func TestP2_7TooManyChoices(t *testing.T) {
	r, s := exampleRules(), exampleSlab()
	for _, c := range []struct {
		fuel api.FurnaceFuel
		want api.Errno
	}{
		{wideFuel(4, 4, 4, 4, 1), api.OK},
		{wideFuel(3, 3, 3, 3, 3), api.OK},
		{wideFuel(4, 4, 3, 3, 2), api.OK}, // 288
		{wideFuel(4, 3, 3, 3, 3), api.ErrLarge},
		{wideFuel(4, 4, 4, 4, 2), api.ErrLarge},
		{wideFuel(4, 4, 4, 4, 4), api.ErrLarge},
	} {
		_, _, e := furnace.CheapestSets(r, s, c.fuel)
		p, f := furnace.FuelProofOf(r, s, c.fuel)
		if e != c.want || f != c.want || f != api.OK && len(p.Choice) > 0 {
			t.Error(c.fuel.Sets, e, f)
		}
		zeros := make([]int, len(c.fuel.Sets))
		claim := api.FurnaceClaim{Fuel: c.fuel, Proof: api.FurnaceProof{Choice: zeros}}
		if _, e := furnace.CheckFuelProof(r, s, claim); e != c.want {
			t.Error(c.fuel.Sets, e)
		}
		claim.Proof.Choice = nil
		if _, e := furnace.CheckFuelProof(r, s, claim); e != c.want && e != api.ErrShape {
			t.Error(c.fuel.Sets, e)
		}
	}
	if n, e := furnace.FuelOf(wideFuel(4, 4, 4, 4, 4), []int{0, 0, 0, 0, 0}); n != 500 || e != api.OK {
		t.Error("the fuel of a choice needs no enumeration", n, e)
	}
}

func TestP2_7AtRandom(t *testing.T) {
	rnd := rand.New(rand.NewSource(15))
	found := 0
	for range 400 {
		r, s, x := heatedCase(rnd)
		var best []int
		for _, choice := range allChoices(x) {
			n, e := furnace.FuelOf(x, choice)
			if e != api.OK || n != fuelByHand(x, choice) {
				t.Fatal(x, choice, n, e)
			}
			g := api.FurnaceGoal{Route: routeFor(x, choice), Target: x.Target}
			if a, e := furnace.IsReady(r, s, g); e != api.OK {
				t.Fatal(e)
			} else if a == api.AnswerYes && (best == nil || n < fuelByHand(x, best)) {
				best = choice
			}
		}
		l, n, e := furnace.CheapestSets(r, s, x)
		if best == nil {
			if e != api.ErrNone || n != 0 || len(l) != 0 {
				t.Fatal(r, s, x, l, n, e)
			}
			continue
		}
		if e != api.OK || n != fuelByHand(x, best) || !slices.Equal(l, best) {
			t.Fatal(r, s, x, l, n, e, best)
		}
		if slices.Max(best) > 0 {
			found++
		}
	}
	if found < 50 {
		t.Error("few cases", found)
	}
}
