package cool_test

import (
	"math"
	"math/rand"
	"slices"
	"testing"

	"cobble/api"
	"cobble/cool"
)

// wrongPrices are not from 0 to MaxCoolPrice.
func wrongPrices() []api.CoolPrices {
	return []api.CoolPrices{prices(-1, 0), prices(1001, 0), prices(0, -1), prices(0, 1001), prices(math.MinInt, 0), prices(math.MaxInt, 0), prices(1000, math.MinInt), prices(1000, math.MaxInt)}
}

func TestP8_5Prices(t *testing.T) {
	for i, c := range wrongPrices() {
		if n, e := cool.CostOf(exampleTable(), c, nil); n != 0 || e != api.ErrRange {
			t.Error(i, n, e)
		}
		if l, n, e := cool.Cheapest(exampleTable(), exampleStrip(), c); l != nil || n != 0 || e != api.ErrRange {
			t.Error(i, l, n, e)
		}
		if n, e := cool.BoundOf(exampleTable(), exampleStrip(), bound(c)); n != 0 || e != api.ErrRange {
			t.Error(i, n, e)
		}
	}
	for i, c := range []api.CoolPrices{prices(0, 0), prices(1000, 0), prices(0, 1000), prices(1000, 1000)} {
		_, e := cool.CostOf(exampleTable(), c, exampleSets())
		_, _, f := cool.Cheapest(exampleTable(), exampleStrip(), c)
		_, g := cool.BoundOf(exampleTable(), exampleStrip(), bound(c, repeated(0, 4), repeated(0, 4), repeated(0, 4)))
		if e != api.OK || f != api.OK || g != api.OK {
			t.Error(i, e, f, g)
		}
	}
}

func TestP8_5CostOf(t *testing.T) {
	four := table(0, 0, bank(0, 0, 0), bank(0, 0, 0), bank(0, 0, 0), bank(0, 0, 0))
	for i, x := range []struct {
		t    api.CoolTable
		c    api.CoolPrices
		sets []int
		want int
	}{
		{exampleTable(), examplePrices(), exampleSets(), 11}, {exampleTable(), examplePrices(), numbers(1, 2, 2), 17}, {exampleTable(), examplePrices(), numbers(1, 3, 0), 18}, {exampleTable(), examplePrices(), numbers(0), 0}, {exampleTable(), examplePrices(), numbers(1), 5},
		{four, prices(1000, 1000), numbers(0, 15, 0, 15, 0, 15, 0, 15, 0, 15, 0, 15), 68000}, {four, prices(1000, 0), repeated(15, 12), 48000}, {four, prices(0, 7), numbers(5, 6, 9, 9), 42}, {four, prices(0, 0), numbers(5, 6, 9, 9), 0}, {four, prices(3, 0), numbers(5, 6, 9, 8), 21},
	} {
		if n, e := cool.CostOf(x.t, x.c, x.sets); n != x.want || e != api.OK {
			t.Error(i, n, e)
		}
	}
	for i, x := range setsCases() {
		if n, e := cool.CostOf(exampleTable(), prices(1000, 1000), x.sets); e != x.want || e != api.OK && n != 0 {
			t.Error(i, n, e)
		}
	}
	for i, x := range tableCases() {
		if _, e := cool.CostOf(x.t, prices(-1, 0), nil); x.want != api.OK && e != x.want || x.want == api.OK && e != api.ErrRange {
			t.Error(i, e)
		}
	}
}

func TestP8_5CostByHand(t *testing.T) {
	rnd := rand.New(rand.NewSource(85))
	for range 5000 {
		x, c := randomTable(rnd, api.MaxCoolBanks, api.MaxCoolDelay), randomPrices(rnd)
		sets := randomAvailableSets(rnd, x, randomFrom(rnd, 1, api.MaxCoolSegments))
		if n, e := cool.CostOf(x, c, sets); n != costByHand(c, sets) || e != api.OK {
			t.Fatal(x, c, sets, n, e)
		}
	}
}

func TestP8_5Cheapest(t *testing.T) {
	wide := ends(0, 12000)
	alikeBanks := table(0, 0, bank(100, 100, 0), bank(100, 100, 0))
	// The exit temperatures of these segments are 900 with one of two banks, or 810 with both.
	one := strip(3, ends(1000, 1000), ends(900, 900))
	mixed := strip(4, ends(1000, 1000), ends(900, 900))
	mixed.Targets[1], mixed.Targets[2] = ends(1000, 1000), ends(0, 900)
	for i, x := range []struct {
		t    api.CoolTable
		x    api.CoolStrip
		c    api.CoolPrices
		want []int
		cost int
	}{
		{exampleTable(), exampleStrip(), examplePrices(), exampleSets(), 11}, {exampleTable(), exampleStrip(), prices(0, 1), numbers(0, 2, 2), 1}, {exampleTable(), exampleStrip(), prices(0, 0), numbers(0, 2, 2), 0}, {exampleTable(), exampleStrip(), prices(1, 1000), numbers(0, 2, 2), 1002},
		{exampleTable(), strip(12, ends(9000, 9000), wide), prices(1000, 1000), repeated(0, 12), 0}, {exampleTable(), strip(2, ends(9000, 9000), ends(12000, 12000)), prices(5, 1), numbers(0, 0), 0},
		{alikeBanks, one, prices(5, 1), numbers(1, 1, 1), 15}, {alikeBanks, one, prices(5, 0), numbers(1, 1, 1), 15}, {alikeBanks, mixed, prices(1, 2), numbers(1, 0, 1, 1), 7}, {alikeBanks, mixed, prices(0, 0), numbers(1, 0, 1, 1), 0}, {alikeBanks, mixed, prices(0, 2), numbers(1, 0, 1, 1), 4},
		{table(0, 0, bank(100, 100, 2), bank(100, 100, 0)), one, prices(1, 1), numbers(2, 2, 2), 3}, {table(0, 0, bank(100, 100, 1), bank(100, 100, 1)), one, prices(1, 0), numbers(2, 1, 1), 3},
		{table(0, 0, bank(1000, 1000, 0)), strip(1, ends(1, 1), ends(0, 0)), prices(1000, 1000), numbers(1), 1000},
		// Open banks are cheaper than changes, if no set reaches a segment.
		{table(0, 0, bank(500, 500, 0)), api.CoolStrip{Entries: ranges(8, 8, 8, 8, 8, 8), Targets: ranges(4, 4, 5, 5, 4, 4)}, prices(3, 2), numbers(1, 1, 1), 9}, {table(0, 0, bank(500, 500, 0)), api.CoolStrip{Entries: ranges(8, 8, 8, 8, 8, 8), Targets: ranges(4, 4, 5, 5, 4, 4)}, prices(4, 2), numbers(1, 0, 1), 12}, {table(0, 0, bank(500, 500, 0)), api.CoolStrip{Entries: ranges(8, 8, 8, 8, 8, 8), Targets: ranges(4, 4, 5, 5, 4, 4)}, prices(5, 2), numbers(1, 0, 1), 14},
	} {
		if l, n, e := cool.Cheapest(x.t, x.x, x.c); !alike(l, x.want) || n != x.cost || e != api.OK {
			t.Error(i, l, n, e)
		}
	}
}

func TestP8_5CheapestByHand(t *testing.T) {
	rnd := rand.New(rand.NewSource(850))
	seen := map[string]int{}
	for range 3000 {
		x, c := randomTable(rnd, 3, 3), randomPrices(rnd)
		s := randomStrip(rnd, x, 4)
		want, cost := cheapestByHand(x, s, c)
		l, n, e := cool.Cheapest(x, s, c)
		if !alike(l, want) || n != cost || e != api.OK {
			t.Fatal(x, s, c, l, n, e, want, cost)
		}
		if n > 0 {
			seen["cost"]++
		}
		if slices.Max(l) != slices.Min(l) {
			seen["change"]++
		}
		ties := 0
		for _, sets := range permittedSetsByHand(x, s) {
			if costByHand(c, sets) == cost {
				ties++
			}
		}
		if ties > 1 {
			seen["tie"]++
		}
	}
	wantSeen(t, seen, 300, "cost", "change", "tie")
}

func TestP8_5BoundErrors(t *testing.T) {
	b := api.CoolBound{Prices: prices(1001, 0), Values: [][]int{{-1000001, 0, 0}, {0, 0, 10, 0}}}
	x, s := table(200, 10), strip(3, ends(9000, 9000), ends(1, 0))
	wantErrors(t, func() api.Errno {
		n, e := cool.BoundOf(x, s, b)
		if e != api.OK && n != 0 {
			t.Error(n, "beside", e)
		}
		return e
	},
		step{api.ErrShape, func() { x.Banks = exampleTable().Banks }},
		step{api.ErrOrder, func() { s.Targets = exampleStrip().Targets }},
		step{api.ErrRange, func() { b.Prices = examplePrices() }},
		step{api.ErrShape, func() { b.Values = append(b.Values, numbers(0, 0, 5, 1000001), nil) }},
		step{api.ErrShape, func() { b.Values = b.Values[:3] }},
		step{api.ErrShape, func() { b.Values[0] = append(b.Values[0], 0, 0) }},
		step{api.ErrShape, func() { b.Values[0] = b.Values[0][:4] }},
		step{api.ErrRange, func() { b.Values[0][0] = 1000001 }},
		step{api.ErrRange, func() { b.Values[0][0] = math.MinInt }},
		step{api.ErrRange, func() { b.Values[0][0] = 12 }},
		step{api.ErrRange, func() { b.Values[2][3] = math.MaxInt }},
		step{api.ErrRange, func() { b.Values[2][3] = -1000001 }},
		step{api.ErrRange, func() { b.Values[2][3] = 1000000 }},
		step{api.ErrProof, func() { b.Values[0][0] = 11 }},
	)
}

// TestP8_5BoundShapes has as many sets as two banks have, and neighbours of this number.
func TestP8_5BoundShapes(t *testing.T) {
	for _, count := range numbers(0, 1, 2, 3, 5, 8, 16) {
		for i := range 3 {
			b := exampleBound()
			b.Values[i] = make([]int, count)
			if n, e := cool.BoundOf(exampleTable(), exampleStrip(), b); n != 0 || e != api.ErrShape {
				t.Error(count, i, n, e)
			}
		}
	}
}

// TestP8_5Bounds changes one number of the example: each one that matters is the
// greatest that is accepted, and the others are free.
func TestP8_5Bounds(t *testing.T) {
	if n, e := cool.BoundOf(exampleTable(), exampleStrip(), exampleBound()); n != 11 || e != api.OK {
		t.Error(n, e)
	}
	matters := [][]int{{0, 0}, {0, 1}, {1, 2}, {2, 2}}
	for i := range 3 {
		for set := range 4 {
			b := exampleBound()
			b.Values[i][set]++
			want := api.OK
			if slices.ContainsFunc(matters, func(l []int) bool { return slices.Equal(l, numbers(i, set)) }) {
				want = api.ErrProof
			}
			if n, e := cool.BoundOf(exampleTable(), exampleStrip(), b); e != want || e == api.OK && n != 11 {
				t.Error(i, set, n, e)
			}
			for _, n := range numbers(-1000000, 1000000) {
				b.Values[i][set] = n
				if _, e := cool.BoundOf(exampleTable(), exampleStrip(), b); want == api.OK && e != api.OK {
					t.Error(i, set, n, e)
				}
			}
		}
	}
	for i, x := range []struct {
		values [][]int
		want   int
		err    api.Errno
	}{
		{[][]int{{10, 17, 0, 0}, {0, 0, 10, 0}, {0, 0, 5, 0}}, 10, api.OK}, {[][]int{{11, -3, 0, 0}, {0, 0, 10, 0}, {0, 0, 5, 0}}, -3, api.OK}, {[][]int{{0, 0, 0, 0}, {0, 0, 0, 0}, {0, 0, 0, 0}}, 0, api.OK}, {[][]int{{0, 0, -9, -9}, {0, 0, 0, 0}, {0, 0, 0, 0}}, 0, api.OK}, {[][]int{{1000000, -1000000, 0, 0}, {0, 0, 0, 0}, {0, 0, 0, 0}}, 0, api.ErrProof}, {[][]int{{-1000000, 0, 0, 0}, {0, 0, 0, 0}, {0, 0, 0, 0}}, -1000000, api.OK},
		{[][]int{{6, 12, 0, 0}, {0, 0, 5, 0}, {0, 0, 0, 0}}, 6, api.OK}, {[][]int{{7, 12, 0, 0}, {0, 0, 5, 0}, {0, 0, 0, 0}}, 0, api.ErrProof}, {[][]int{{6, 12, 0, 0}, {0, 0, 6, 0}, {0, 0, 0, 0}}, 0, api.ErrProof},
	} {
		if n, e := cool.BoundOf(exampleTable(), exampleStrip(), bound(examplePrices(), x.values...)); n != x.want || e != x.err {
			t.Error(i, n, e)
		}
	}
}

func TestP8_5BoundsByHand(t *testing.T) {
	rnd := rand.New(rand.NewSource(851))
	seen := map[bool]int{}
	for range 3000 {
		x, c := randomTable(rnd, api.MaxCoolBanks, 3), randomPrices(rnd)
		s := randomStrip(rnd, x, 4)
		b := greatestBound(x, s, c)
		for range rnd.Intn(4) {
			i := rnd.Intn(len(b.Values))
			b.Values[i][randomSet(rnd, x)] += randomFrom(rnd, -3, 1)
		}
		want, isAccepted := boundByHand(x, s, b)
		wanted := api.OK
		if !isAccepted {
			wanted = api.ErrProof
		}
		if n, e := cool.BoundOf(x, s, b); n != want || e != wanted {
			t.Fatal(x, s, b, n, e)
		}
		seen[isAccepted]++
	}
	wantSeen(t, seen, 500, false, true)
}

func TestP8_11Bounded(t *testing.T) {
	rnd := rand.New(rand.NewSource(811))
	for range 2000 {
		x, c := randomTable(rnd, api.MaxCoolBanks, api.MaxCoolDelay), randomPrices(rnd)
		s := randomStrip(rnd, x, api.MaxCoolSegments)
		best, cost, e := cool.Cheapest(x, s, c)
		if n, f := cool.CostOf(x, c, best); n != cost || e != api.OK || f != api.OK {
			t.Fatal(x, s, c, best, cost, n, e, f)
		}
		b := greatestBound(x, s, c)
		if n, e := cool.BoundOf(x, s, b); n != cost || e != api.OK {
			t.Fatal("the greatest bound is not the cost", x, s, b, n, e, cost)
		}
		for _, l := range b.Values {
			for set := range l {
				l[set] -= rnd.Intn(3)
			}
		}
		if n, e := cool.BoundOf(x, s, b); e == api.OK && n > cost {
			t.Fatal(x, s, b, n, cost)
		}
		for range 20 {
			var sets []int
			for i := range s.Entries {
				l := permittedByHand(x, s, i)
				sets = append(sets, l[rnd.Intn(len(l))])
			}
			n, e := cool.CostOf(x, c, sets)
			if n < cost || n == cost && slices.Compare(sets, best) < 0 || e != api.OK {
				t.Fatal(x, s, c, best, cost, sets, n, e)
			}
		}
	}
}
