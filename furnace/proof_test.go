package furnace_test

import (
	"math/rand"
	"slices"
	"testing"

	"cobble/api"
	"cobble/furnace"
)

// ladder is a slab that every step warms by a tenth of the difference, and a fuel
// with two zones in which the choices give 1000 (0, 0), 1090 (1, 0), 1100 (0, 1)
// and 1190 (1, 1); they need 3000, 4000, 5000 and 6000.
func ladder(lo, hi int) (api.FurnaceRules, api.FurnaceSlab, api.FurnaceFuel) {
	r := api.FurnaceRules{Table: tableOf(0, 0, 20000, 20000), Mix: 0, Emissivity: ends(100, 100)}
	x := api.FurnaceFuel{Sets: [][]int{{1000, 2000}, {1000, 2000}}, Steps: []int{1, 1}, Prices: []int{1, 2}, Target: ends(lo, hi)}
	return r, slab(1000, 1000, 1000), x
}

func proofOf(choice []int, cold, hot [][]int) api.FurnaceProof {
	return api.FurnaceProof{Choice: choice, Cold: cold, Hot: hot}
}

func TestP2_8FuelProofOf(t *testing.T) {
	r, s := exampleRules(), exampleSlab()
	p, e := furnace.FuelProofOf(r, s, exampleFuel())
	if e != api.OK || !slices.Equal(p.Choice, []int{1}) || len(p.Cold) != 1 || !slices.Equal(p.Cold[0], []int{0}) || len(p.Hot) != 0 {
		t.Error("example 7", p, e)
	}
	none := exampleFuel()
	none.Target.Lo = 600
	if p, e := furnace.FuelProofOf(r, s, none); e != api.ErrNone || len(p.Choice)+len(p.Cold)+len(p.Hot) != 0 {
		t.Error("no choice is suitable", p, e)
	}
	if p, e := furnace.FuelProofOf(r, s, wideFuel(2, 2)); e != api.OK || !slices.Equal(p.Choice, []int{0, 0}) || len(p.Cold)+len(p.Hot) != 0 {
		t.Error("nothing is cheaper", p, e)
	}
}

func TestP2_8Accepted(t *testing.T) {
	for _, c := range []struct {
		lo, hi int
		proof  api.FurnaceProof
		open   []int
		want   api.Errno
	}{
		{1000, 1000, proofOf([]int{0, 0}, nil, nil), nil, api.OK},
		{1000, 1000, proofOf([]int{0, 0}, nil, [][]int{{1, 0}, {0, 1}, {1, 1}}), nil, api.OK},
		{1000, 1000, proofOf([]int{0, 0}, [][]int{{1, 0}}, nil), nil, api.ErrClash},
		{1090, 1090, proofOf([]int{1, 0}, [][]int{{0, 0}}, nil), nil, api.OK},
		{1090, 1090, proofOf([]int{1, 0}, nil, [][]int{{0, 1}}), []int{0, 0}, api.ErrProof},
		{1190, 1190, proofOf([]int{1, 1}, [][]int{{1, 0}, {0, 1}}, nil), nil, api.OK},
		{1190, 1190, proofOf([]int{1, 1}, [][]int{{1, 0}}, nil), []int{0, 1}, api.ErrProof},
		{1190, 1190, proofOf([]int{1, 1}, [][]int{{0, 1}, {0, 1}}, nil), []int{1, 0}, api.ErrProof},
		{1190, 1190, proofOf([]int{1, 1}, nil, nil), []int{0, 0}, api.ErrProof},
		{1190, 1190, proofOf([]int{1, 1}, [][]int{{0, 0}}, nil), []int{0, 1}, api.ErrProof},
		{1190, 1190, proofOf([]int{1, 1}, [][]int{{1, 1}}, nil), nil, api.ErrClash},
		// A suitable choice that is not the cheapest one: what is suitable stays open.
		{1090, 1100, proofOf([]int{0, 1}, [][]int{{0, 0}}, nil), []int{1, 0}, api.ErrProof},
		{1090, 1100, proofOf([]int{1, 0}, [][]int{{0, 0}}, [][]int{{1, 1}}), nil, api.OK},
		{1095, 1105, proofOf([]int{0, 1}, [][]int{{1, 0}}, nil), nil, api.OK},
		{1000, 1090, proofOf([]int{1, 0}, nil, nil), []int{0, 0}, api.ErrProof},
		{1000, 1090, proofOf([]int{0, 1}, nil, nil), nil, api.ErrRefused},
		{1000, 1090, proofOf([]int{1, 1}, nil, nil), nil, api.ErrRefused},
		{1090, 1190, proofOf([]int{0, 0}, nil, nil), nil, api.ErrRefused},
		// The edges of being too cold and too hot.
		{1090, 1190, proofOf([]int{1, 0}, [][]int{{1, 0}}, nil), nil, api.ErrClash},
		{1091, 1190, proofOf([]int{0, 1}, [][]int{{1, 0}}, nil), nil, api.OK},
		{1000, 1090, proofOf([]int{0, 0}, nil, [][]int{{1, 0}}), nil, api.ErrClash},
		{1000, 1089, proofOf([]int{0, 0}, nil, [][]int{{1, 0}}), nil, api.OK},
	} {
		r, s, x := ladder(c.lo, c.hi)
		l, e := furnace.CheckFuelProof(r, s, api.FurnaceClaim{Fuel: x, Proof: c.proof})
		if e != c.want || !slices.Equal(l, c.open) {
			t.Errorf("%d to %d %v: %v %v in place of %v %v", c.lo, c.hi, c.proof, l, e, c.open, c.want)
		}
	}
}

// TestP2_8Hot has a price by which hotter choices are cheaper, so that Hot is
// needed: what has one of Hot below it is excluded.
func TestP2_8Hot(t *testing.T) {
	// The first zone is free, so that a hotter one and a colder second one are
	// cheaper: the choices give 1000, 1100, 1090, 1190, 1180, 1280 by (0, 0),
	// (0, 1), (1, 0), (1, 1), (2, 0), (2, 1).
	r, s, x := ladder(1100, 1100)
	x.Sets[0] = []int{1000, 2000, 3000}
	x.Prices[0] = 0
	for _, c := range []struct {
		cold, hot [][]int
		open      []int
		want      api.Errno
	}{
		{[][]int{{1, 0}}, [][]int{{2, 0}}, nil, api.OK},
		{[][]int{{1, 0}}, nil, []int{2, 0}, api.ErrProof},
		{[][]int{{1, 0}}, [][]int{{1, 1}}, []int{2, 0}, api.ErrProof},
		{[][]int{{0, 0}}, [][]int{{2, 0}}, []int{1, 0}, api.ErrProof},
		{nil, [][]int{{2, 0}, {1, 1}}, []int{0, 0}, api.ErrProof},
		{[][]int{{1, 0}, {2, 0}}, [][]int{{2, 0}}, nil, api.ErrClash},
		{[][]int{{1, 0}}, [][]int{{2, 0}, {1, 0}}, nil, api.ErrClash},
		{[][]int{{1, 0}}, [][]int{{2, 0}, {0, 1}}, nil, api.ErrClash},
	} {
		p := proofOf([]int{0, 1}, c.cold, c.hot)
		l, e := furnace.CheckFuelProof(r, s, api.FurnaceClaim{Fuel: x, Proof: p})
		if e != c.want || !slices.Equal(l, c.open) {
			t.Errorf("%v: %v %v in place of %v %v", p, l, e, c.open, c.want)
		}
	}
	if p, e := furnace.FuelProofOf(r, s, x); e != api.OK || !slices.Equal(p.Choice, []int{0, 1}) || len(p.Hot) == 0 || len(p.Cold) == 0 {
		t.Error(p, e)
	}
	x.Sets[0] = []int{1500, 3000}
	x.Target = ends(1000, 1050)
	// Now (0, 0) gives 1045; (1, 0) is as cheap, so that nothing must be excluded.
	if p, e := furnace.FuelProofOf(r, s, x); e != api.OK || !slices.Equal(p.Choice, []int{0, 0}) || len(p.Hot)+len(p.Cold) != 0 {
		t.Error(p, e)
	}
}

// TestP2_8ColdAndHot has a cheaper choice that is too cold and too hot: either side
// proves that it is not suitable.
func TestP2_8ColdAndHot(t *testing.T) {
	r := api.FurnaceRules{Table: tableOf(0, 0, 20000, 20000), Mix: 0, Emissivity: ends(100, 500)}
	s := slab(1000, 1000, 1000)
	// The choices give 500 to 900 (0, 0), 1000 (0, 1), 550 to 1350 (1, 0), and 1050
	// to 1450 (1, 1); only the second zone has a price.
	x := api.FurnaceFuel{Sets: [][]int{{1000, 2000}, {0, 1000}}, Steps: []int{1, 1}, Prices: []int{0, 1}, Target: ends(1000, 1000)}
	if l, n, e := furnace.CheapestSets(r, s, x); e != api.OK || n != 1000 || !slices.Equal(l, []int{0, 1}) {
		t.Error(l, n, e)
	}
	for _, c := range []struct {
		proof api.FurnaceProof
		open  []int
		want  api.Errno
	}{
		{proofOf([]int{0, 1}, [][]int{{1, 0}}, nil), nil, api.OK},
		{proofOf([]int{0, 1}, [][]int{{0, 0}}, [][]int{{1, 0}}), nil, api.OK},
		{proofOf([]int{0, 1}, [][]int{{1, 0}}, [][]int{{1, 0}}), nil, api.OK},
		{proofOf([]int{0, 1}, [][]int{{0, 0}}, nil), []int{1, 0}, api.ErrProof},
		{proofOf([]int{0, 1}, nil, [][]int{{1, 0}}), []int{0, 0}, api.ErrProof},
		{proofOf([]int{0, 1}, [][]int{{0, 0}}, [][]int{{0, 0}}), nil, api.ErrClash},
		{proofOf([]int{0, 1}, [][]int{{1, 1}}, [][]int{{1, 0}}), nil, api.ErrClash},
		{proofOf([]int{1, 0}, nil, nil), nil, api.ErrRefused},
	} {
		l, e := furnace.CheckFuelProof(r, s, api.FurnaceClaim{Fuel: x, Proof: c.proof})
		if e != c.want || !slices.Equal(l, c.open) {
			t.Errorf("%v: %v %v in place of %v %v", c.proof, l, e, c.open, c.want)
		}
	}
}

func TestP2_8CheckErrors(t *testing.T) {
	r, s := api.FurnaceRules{}, slab(-1)
	x := api.FurnaceClaim{Fuel: wideFuel(4, 4, 4, 4, 4), Proof: proofOf(nil, make([][]int, 301), make([][]int, 301))}
	x.Fuel.Target = ends(1, 0)
	_, _, ladderFuel := ladder(1090, 1100)
	wantErrors(t, func() api.Errno {
		l, e := furnace.CheckFuelProof(r, s, x)
		if e != api.ErrProof && len(l) != 0 {
			t.Error(l, e)
		}
		return e
	},
		step{api.ErrShape, func() { r = exampleRules(); r.Emissivity.Hi = 0 }},
		step{api.ErrOrder, func() { r, _, _ = ladder(0, 0) }},
		step{api.ErrShape, func() { s = exampleSlab(); s.Bottom = -1 }},
		step{api.ErrRange, func() { s = slab(1000, 1000, 1000) }},
		step{api.ErrOrder, func() { x.Fuel.Target.Hi = 20000 }},
		step{api.ErrLarge, func() { x.Fuel = ladderFuel }},
		step{api.ErrLarge, func() { x.Proof.Cold = x.Proof.Cold[:300] }},
		step{api.ErrLarge, func() { x.Proof.Hot = x.Proof.Hot[:300] }},
		step{api.ErrShape, func() { x.Proof.Choice = []int{0, 2} }},
		step{api.ErrMissing, func() { x.Proof.Choice = []int{-1, 0} }},
		step{api.ErrMissing, func() { x.Proof.Choice = []int{0, 0} }},
		step{api.ErrShape, func() { x.Proof.Cold = [][]int{{1, 1}, {0, 2}} }},
		step{api.ErrMissing, func() { x.Proof.Cold[1] = []int{0, -1} }},
		step{api.ErrMissing, func() { x.Proof.Cold[1] = []int{0, 0} }},
		step{api.ErrShape, func() { x.Proof.Hot = [][]int{{0, 0}, {0, 2}} }},
		step{api.ErrMissing, func() { x.Proof.Hot[1] = []int{0, 0} }},
		step{api.ErrRefused, func() { x.Proof.Choice = []int{0, 1} }},
		step{api.ErrClash, func() { x.Proof.Cold = x.Proof.Cold[1:] }},
		step{api.ErrClash, func() { x.Proof.Hot = [][]int{{1, 1}} }},
		step{api.ErrProof, func() { x.Proof.Choice = []int{1, 0} }})
}

// TestP2_8ErrorsOfColdFirst has an error of a later kind in Cold and of an earlier
// one in Hot: those of Cold come first.
func TestP2_8ErrorsOfColdFirst(t *testing.T) {
	r, s, x := ladder(1090, 1100)
	for _, c := range []struct {
		cold, hot [][]int
		want      api.Errno
	}{
		{[][]int{{0, 2}}, [][]int{{0}}, api.ErrMissing},
		{[][]int{{0, 0}}, [][]int{{0}}, api.ErrShape},
		{[][]int{{0, 0}, {0}, {0, 2}}, nil, api.ErrShape},
		{[][]int{{0, 0}, {0, 2}, {0}}, nil, api.ErrMissing},
		{[][]int{{1, 1}}, [][]int{{0}}, api.ErrShape},
		{slices.Repeat([][]int{{0, 0}}, 300), slices.Repeat([][]int{{1, 1}}, 300), api.OK},
		{slices.Repeat([][]int{{0, 0}}, 301), nil, api.ErrLarge},
		{nil, slices.Repeat([][]int{{1, 1}}, 301), api.ErrLarge},
	} {
		claim := api.FurnaceClaim{Fuel: x, Proof: proofOf([]int{1, 0}, c.cold, c.hot)}
		if _, e := furnace.CheckFuelProof(r, s, claim); e != c.want {
			t.Errorf("%d %d: %v in place of %v", len(c.cold), len(c.hot), e, c.want)
		}
	}
}

func TestP2_13NoCheaperOne(t *testing.T) {
	rnd := rand.New(rand.NewSource(16))
	withCold, withHot := 0, 0
	for range 400 {
		r, s, x := heatedCase(rnd)
		best, fuel, e := furnace.CheapestSets(r, s, x)
		p, f := furnace.FuelProofOf(r, s, x)
		if e != f {
			t.Fatal(r, s, x, e, f)
		}
		if e != api.OK {
			continue
		}
		if !slices.Equal(p.Choice, best) || fuelByHand(x, p.Choice) != fuel {
			t.Fatal(r, s, x, p, best)
		}
		if l, e := furnace.CheckFuelProof(r, s, api.FurnaceClaim{Fuel: x, Proof: p}); e != api.OK || len(l) > 0 {
			t.Fatal(r, s, x, p, l, e)
		}
		if len(p.Cold) > 0 {
			withCold++
		}
		if len(p.Hot) > 0 {
			withHot++
		}
	}
	if withCold < 50 || withHot < 5 {
		t.Error("few cases", withCold, withHot)
	}
}

// TestP2_13ProofsAtRandom has proofs of which most are not accepted.
func TestP2_13ProofsAtRandom(t *testing.T) {
	rnd := rand.New(rand.NewSource(17))
	count := map[api.Errno]int{}
	for range 1500 {
		r, s, x := heatedCase(rnd)
		choices := allChoices(x)
		p := proofOf(choices[rnd.Intn(len(choices))], nil, nil)
		if best, _, e := furnace.CheapestSets(r, s, x); e == api.OK && rnd.Intn(3) > 0 {
			p.Choice = best
		}
		exact := rnd.Intn(4) > 0
		for _, choice := range choices {
			cold, hot := coldOrHot(r, s, x, choice)
			if rnd.Intn(3) == 0 && (cold || !exact && rnd.Intn(8) == 0) {
				p.Cold = append(p.Cold, choice)
			}
			if rnd.Intn(3) == 0 && (hot || !exact && rnd.Intn(8) == 0) {
				p.Hot = append(p.Hot, choice)
			}
		}
		l, e := furnace.CheckFuelProof(r, s, api.FurnaceClaim{Fuel: x, Proof: p})
		open, want := judged(r, s, x, p)
		if e != want || !slices.Equal(l, open) {
			t.Fatal(r, s, x, p, l, e, open, want)
		}
		count[e]++
		if e != api.OK {
			continue
		}
		for _, choice := range choices {
			if cold, hot := coldOrHot(r, s, x, choice); !cold && !hot && fuelByHand(x, choice) < fuelByHand(x, p.Choice) {
				t.Fatal("a cheaper choice is suitable", r, s, x, p, choice)
			}
		}
	}
	for _, e := range []api.Errno{api.OK, api.ErrRefused, api.ErrClash, api.ErrProof} {
		if count[e] < 40 {
			t.Error("few cases", e, count)
		}
	}
}

// judged is what is wanted for a proof whose choices have no error.
func judged(r api.FurnaceRules, s api.FurnaceSlab, x api.FurnaceFuel, p api.FurnaceProof) ([]int, api.Errno) {
	if cold, hot := coldOrHot(r, s, x, p.Choice); cold || hot {
		return nil, api.ErrRefused
	}
	for _, choice := range p.Cold {
		if cold, _ := coldOrHot(r, s, x, choice); !cold {
			return nil, api.ErrClash
		}
	}
	for _, choice := range p.Hot {
		if _, hot := coldOrHot(r, s, x, choice); !hot {
			return nil, api.ErrClash
		}
	}
	if open := firstOpen(x, p); open != nil {
		return open, api.ErrProof
	}
	return nil, api.OK
}

// TestP2_8Below is the reason why the sides of a proof exclude more than
// themselves.
func TestP2_8Below(t *testing.T) {
	rnd := rand.New(rand.NewSource(18))
	for range 200 {
		r, s, x := heatedCase(rnd)
		for _, a := range allChoices(x) {
			coldA, hotA := coldOrHot(r, s, x, a)
			for _, b := range allChoices(x) {
				if !belowByHand(x, a, b) {
					continue
				}
				coldB, hotB := coldOrHot(r, s, x, b)
				if coldB && !coldA || hotA && !hotB {
					t.Fatal(r, s, x, a, b)
				}
			}
		}
	}
}
