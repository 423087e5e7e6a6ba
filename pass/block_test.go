package pass_test

import (
	"math/rand"
	"slices"
	"strconv"
	"testing"

	"cobble/api"
	"cobble/pass"
)

// chillyRules have a first stand that must not be open, since the strip would be
// too cold after it. On the grid 10 its settings are from 100 to 90, 80, 70 and 60,
// with the forces 19100, 18200, 17300 and 16400.
func chillyRules(radius, force, torque int) api.PassRules {
	r := freeRules(100, 60, 2)
	r.Stress, r.Heat, r.Coldest = ends(10, 10), ends(9000, 9000), 9000
	r.Stands[0] = stand(radius, force, torque, 1, 1)
	return r
}

// withOpenStand puts a stand without any force in front of the others.
func withOpenStand(r api.PassRules) api.PassRules {
	r.Stands = append([]api.PassStand{stand(1, 0, 0, 0, 0)}, r.Stands...)
	return r
}

func TestP3_7BlockedAt(t *testing.T) {
	const most = api.MaxPassLimit
	one := exampleRules()
	one.Stands = one.Stands[:1]
	oneBy := func(radius, force, torque int) api.PassRules {
		r := copyRules(one)
		r.Stands[0] = stand(radius, force, torque, 0, 100)
		return r
	}
	cold, last := exampleRules(), exampleRules()
	cold.Coldest = 10000
	last.Coldest = 9801
	last.Stands[1].Loss = ends(0, 101)
	slippery := exampleRules()
	slippery.Friction = ends(0, 3)
	same := freeRules(60, 60, 3)
	same.Heat, same.Coldest, same.Stands[1].Loss = ends(9000, 9000), 9000, ends(0, 1)
	for i, x := range []struct {
		r    api.PassRules
		grid int
		want api.PassBlock
	}{
		// the example: of PassTorque and PassBite the first one
		{one, 10, block(0, api.PassTorque)},
		{one, 1000, block(0, api.PassTorque)},
		{oneBy(1000, 14000, 559999), 10, block(0, api.PassTorque)},
		{oneBy(1000, 13999, most), 10, block(0, api.PassForce)},
		{oneBy(1000, 13999, 1), 10, block(0, api.PassForce)},
		{oneBy(300, 14000, 560000), 10, block(0, api.PassBite)},
		{cold, 10, block(0, api.PassCold)},
		{last, 10, block(1, api.PassCold)},
		{exampleRules(), 7, block(1, api.PassBite)},
		{exampleRules(), 100, block(1, api.PassTorque)},
		{slippery, 10, block(1, api.PassBite)},
		{same, 1, block(1, api.PassCold)},
		// before the last stand several limits are needed, and always PassCold
		{chillyRules(9, most, most), 10, block(0, api.PassBite, api.PassCold)},
		{chillyRules(10, most, 190999), 10, block(0, api.PassTorque, api.PassCold)},
		{chillyRules(9, most, 190999), 10, block(0, api.PassTorque, api.PassCold)},
		{chillyRules(100, 16399, most), 10, block(0, api.PassForce, api.PassCold)},
		{chillyRules(9, 16399, 190999), 10, block(0, api.PassForce, api.PassCold)},
		{chillyRules(29, 17300, most), 10, block(0, api.PassForce, api.PassBite, api.PassCold)},
		{chillyRules(100, 17300, 518999), 10, block(0, api.PassForce, api.PassTorque, api.PassCold)},
		{chillyRules(29, 17300, 518999), 10, block(0, api.PassForce, api.PassTorque, api.PassCold)},
		{withOpenStand(chillyRules(29, 17300, most)), 10, block(1, api.PassForce, api.PassBite, api.PassCold)},
		{withOpenStand(chillyRules(9, most, most)), 10, block(1, api.PassBite, api.PassCold)},
		{withOpenStand(oneBy(300, 14000, 560000)), 10, block(1, api.PassBite)},
	} {
		if b, e := pass.BlockedAt(x.r, x.grid); e != api.OK || !alikeBlocks(b, x.want) {
			t.Error(i, b, e, x.want)
		}
		if want, is := blockByHand(x.r, x.grid); !is || !alikeBlocks(want, x.want) {
			t.Error(i, "by hand", want)
		}
	}
	for i, x := range []struct {
		r    api.PassRules
		grid int
	}{
		{exampleRules(), 3}, {exampleRules(), 10}, {exampleRules(), 80}, {oneBy(1000, 14000, 560000), 10}, {freeRules(60, 60, 1), 1},
		{chillyRules(10, most, most), 10}, {chillyRules(30, 17300, 519000), 10}, {chillyRules(100, 16400, most), 10},
	} {
		if b, e := pass.BlockedAt(x.r, x.grid); e != api.ErrNone || b.Stand != 0 || len(b.Limits) != 0 {
			t.Error(i, b, e)
		}
	}
}

// TestP3_13EitherWay compares with all sets of limits, and wants either a cheapest
// schedule or a block.
func TestP3_13EitherWay(t *testing.T) {
	rnd := rand.New(rand.NewSource(313))
	kinds := map[string]int{}
	for range 500 {
		stands := 1 + rnd.Intn(3)
		r, _, grid := tightCase(rnd, stands)
		want, is := blockByHand(r, grid)
		b, e := pass.BlockedAt(r, grid)
		_, _, f := pass.Cheapest(r, grid)
		if is && (e != api.OK || f != api.ErrNone || !alikeBlocks(b, want)) || !is && (e != api.ErrNone || f != api.OK) {
			t.Fatal(r, grid, b, e, f, want, is)
		}
		if is && b.Stand < stands-1 && !slices.Contains(b.Limits, api.PassCold) {
			t.Fatal("a stand before the last one may be open", r, grid, b)
		}
		if is {
			kinds[strconv.Itoa(len(b.Limits))+" at "+strconv.Itoa(b.Stand)]++
		}
	}
	for _, kind := range []string{"1 at 0", "1 at 1", "1 at 2", "2 at 0"} {
		if kinds[kind] == 0 {
			t.Error("no block", kind, kinds)
		}
	}
}

// TestP3_11NoBetterSchedule lowers potentials, where this keeps them valid, and
// compares their bound with all schedules that hold.
func TestP3_11NoBetterSchedule(t *testing.T) {
	rnd := rand.New(rand.NewSource(311))
	bounds := 0
	for range 200 {
		r, _, grid := tightCase(rnd, 1+rnd.Intn(3))
		l := holding(r, grid)
		p, e := pass.PotentialsOf(r, grid)
		if (e == api.OK) != (len(l) > 0) {
			t.Fatal(r, grid, e, l)
		}
		if e != api.OK {
			p = zeros(len(r.Stands), len(permittedByHand(r, grid)))
		}
		for range 5 {
			for i := range p[0] {
				p[0][i] -= rnd.Intn(1000)
			}
			b, e := pass.CheckBound(r, grid, p)
			if e != api.OK {
				t.Fatal(r, grid, p, e)
			}
			for _, s := range l {
				bounds++
				if n, e := pass.EnergyOf(r, s); e != api.OK || b > n {
					t.Fatal(r, grid, p, s, b, n, e)
				}
			}
		}
		if s, n, e := pass.Cheapest(r, grid); len(l) > 0 {
			answer, f := pass.HoldsFor(r, s)
			energy, g := pass.EnergyOf(r, s)
			if e != api.OK || f != api.OK || g != api.OK || answer != api.AnswerYes || energy != n {
				t.Fatal(r, grid, s, n, e, answer, f, energy, g)
			}
		}
	}
	if bounds < 100 {
		t.Error("too few bounds", bounds)
	}
}

// TestP3_12FinerGrids compares grids with multiples of them.
func TestP3_12FinerGrids(t *testing.T) {
	rnd := rand.New(rand.NewSource(312))
	less, none := 0, 0
	for range 400 {
		r, _, grid := tightCase(rnd, 1+rnd.Intn(4))
		coarse := grid * (2 + rnd.Intn(2))
		_, n, e := pass.Cheapest(r, coarse)
		_, m, f := pass.Cheapest(r, grid)
		if e == api.ErrNone && f == api.OK {
			none++
		}
		if e != api.OK {
			continue
		}
		if f != api.OK || m > n {
			t.Fatal(r, grid, coarse, m, f, n)
		}
		if m < n {
			less++
		}
		stands, e := pass.FewestOf(r, coarse)
		if fewer, f := pass.FewestOf(r, grid); e != api.OK || f != api.OK || fewer > stands {
			t.Fatal(r, grid, coarse, fewer, stands, e, f)
		}
	}
	if less == 0 || none == 0 {
		t.Error("the finer grid was never better", less, none)
	}
}
