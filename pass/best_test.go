package pass_test

import (
	"math"
	"math/rand"
	"slices"
	"testing"

	"cobble/api"
	"cobble/pass"
)

func TestP3_6GridErrors(t *testing.T) {
	calls := map[string]func(r api.PassRules, grid int) api.Errno{
		"Cheapest":     func(r api.PassRules, grid int) api.Errno { _, _, e := pass.Cheapest(r, grid); return e },
		"FewestOf":     func(r api.PassRules, grid int) api.Errno { _, e := pass.FewestOf(r, grid); return e },
		"PotentialsOf": func(r api.PassRules, grid int) api.Errno { _, e := pass.PotentialsOf(r, grid); return e },
		"BlockedAt": func(r api.PassRules, grid int) api.Errno {
			if _, e := pass.BlockedAt(r, grid); e != api.ErrNone {
				return e
			}
			return api.OK
		},
		"CheckBound": func(r api.PassRules, grid int) api.Errno {
			thicknesses := 0
			if grid > 0 {
				thicknesses = len(permittedByHand(r, grid))
			}
			_, e := pass.CheckBound(r, grid, zeros(len(r.Stands), thicknesses))
			return e
		},
	}
	noStands, wrongStand := exampleRules(), exampleRules()
	noStands.Stands = nil
	wrongStand.Stands[1].Loss.Lo = 200
	for i, x := range []struct {
		r    api.PassRules
		grid int
		want api.Errno
	}{
		{exampleRules(), 0, api.ErrRange}, {exampleRules(), -1, api.ErrRange}, {exampleRules(), 1001, api.ErrRange}, {exampleRules(), math.MinInt, api.ErrRange}, {exampleRules(), math.MaxInt, api.ErrRange},
		{exampleRules(), 10, api.OK}, {exampleRules(), 3, api.OK},
		// 41 and 40 thicknesses
		{exampleRules(), 1, api.ErrLarge}, {freeRules(100, 61, 2), 1, api.OK}, {freeRules(1000, 1, 2), 24, api.ErrLarge}, {freeRules(1000, 1, 1), 26, api.OK},
		{freeRules(40, 1, 1), 1, api.OK}, {freeRules(41, 1, 1), 1, api.ErrLarge}, {freeRules(1000, 1000, 1), 1, api.OK}, {freeRules(1, 1, 1), 1000, api.OK},
		// both ends are no multiples, one end is one
		{freeRules(99, 20, 1), 2, api.ErrLarge}, {freeRules(97, 20, 1), 2, api.OK}, {freeRules(98, 21, 1), 2, api.OK}, {freeRules(97, 21, 1), 2, api.OK}, {freeRules(99, 21, 1), 2, api.ErrLarge}, {freeRules(98, 20, 1), 2, api.OK},
		{noStands, 0, api.ErrShape}, {wrongStand, 1, api.ErrOrder}, {freeRules(9, 10, 7), 0, api.ErrOrder}, {freeRules(9, 9, 7), 0, api.ErrLarge},
	} {
		for name, call := range calls {
			if e := call(x.r, x.grid); e != x.want {
				t.Error(i, name, e, "in place of", x.want)
			}
		}
	}
}

// TestP3_6GridSizes has rules without friction losses, so that each grid has a
// schedule; only the number of thicknesses decides.
func TestP3_6GridSizes(t *testing.T) {
	for start := 1; start <= 60; start += 7 {
		for finish := 1; finish <= start; finish += 3 {
			for grid := 1; grid <= start+1; grid++ {
				r := freeRules(start, finish, 1)
				want := api.OK
				if len(permittedByHand(r, grid)) > 40 {
					want = api.ErrLarge
				}
				if _, _, e := pass.Cheapest(r, grid); e != want {
					t.Fatal(start, finish, grid, e)
				}
				if p, e := pass.PotentialsOf(r, grid); e != want || e == api.OK && (len(p[0]) != len(permittedByHand(r, grid)) || len(p[1]) != len(p[0])) {
					t.Fatal(start, finish, grid, p, e)
				}
			}
		}
	}
}

func TestP3_6Cheapest(t *testing.T) {
	without := exampleRules()
	without.Start = 99
	open := exampleRules()
	open.Start = 60
	cold := open
	cold.Coldest = 9801
	for i, x := range []struct {
		r      api.PassRules
		grid   int
		want   []int
		energy int
		fewest int
		err    api.Errno
	}{
		{exampleRules(), 10, []int{80, 60}, 536000, 2, api.OK},
		{exampleRules(), 3, []int{81, 60}, 536060, 2, api.OK},
		{exampleRules(), 20, []int{80, 60}, 536000, 2, api.OK},
		{exampleRules(), 80, []int{80, 60}, 536000, 2, api.OK},
		{exampleRules(), 9, []int{81, 60}, 536060, 2, api.OK},
		{exampleRules(), 7, nil, 0, 0, api.ErrNone}, {exampleRules(), 60, nil, 0, 0, api.ErrNone}, {exampleRules(), 100, nil, 0, 0, api.ErrNone}, {exampleRules(), 1000, nil, 0, 0, api.ErrNone},
		{without, 11, nil, 0, 0, api.ErrNone}, {without, 16, []int{80, 60}, 518910, 2, api.OK},
		{open, 1, []int{60, 60}, 0, 0, api.OK}, {open, 1000, []int{60, 60}, 0, 0, api.OK}, {cold, 1, nil, 0, 0, api.ErrNone},
		{freeRules(100, 60, 1), 1000, []int{60}, 40 * (40 + 16000), 1, api.OK},
		// the lexicographically first one of those with the same energy: the open stands come last
		{freeRules(100, 60, 3), 1000, []int{60, 60, 60}, 40 * (40 + 16000), 1, api.OK},
		{freeRules(100, 60, 2), 20, []int{80, 60}, 20*(20+18000) + 20*(20+14000), 1, api.OK},
		{freeRules(100, 60, 3), 20, []int{80, 60, 60}, 20*(20+18000) + 20*(20+14000), 1, api.OK},
	} {
		s, n, e := pass.Cheapest(x.r, x.grid)
		if e != x.err || n != x.energy || !slices.Equal(s.Thicknesses, x.want) {
			t.Error(i, s, n, e)
		}
		if e == api.OK && s.Name != "best" || e != api.OK && s.Name != "" {
			t.Error(i, s.Name)
		}
		if f, e := pass.FewestOf(x.r, x.grid); e != x.err || f != x.fewest {
			t.Error(i, f, e)
		}
	}
}

// TestP3_6ByTrying compares with all schedules on the grid.
func TestP3_6ByTrying(t *testing.T) {
	rnd := rand.New(rand.NewSource(366))
	found, several, open := 0, 0, 0
	for range 250 {
		r, _, grid := tightCase(rnd, 1+rnd.Intn(3))
		l := holding(r, grid)
		s, n, e := pass.Cheapest(r, grid)
		f, g := pass.FewestOf(r, grid)
		if len(l) == 0 {
			if e != api.ErrNone || g != api.ErrNone || n != 0 || f != 0 {
				t.Fatal(r, grid, s, n, e, f, g)
			}
			continue
		}
		found++
		least := slices.MinFunc(l, func(a, b api.PassSchedule) int { return energiesByHand(r, a) - energiesByHand(r, b) })
		if e != api.OK || !alikeSchedules(s, least) || n != energiesByHand(r, least) {
			t.Fatal(r, grid, s, n, e, least)
		}
		fewest := slices.MinFunc(l, func(a, b api.PassSchedule) int { return reducingByHand(r, a) - reducingByHand(r, b) })
		if g != api.OK || f != reducingByHand(r, fewest) {
			t.Fatal(r, grid, f, g, fewest)
		}
		if len(l) > 1 {
			several++
		}
		if f < reducingByHand(r, s) {
			open++
		}
	}
	if found < 50 || several < 25 || open == 0 {
		t.Error("too few of a kind", found, several, open)
	}
}

// TestP3_6EqualEnergies has many schedules with the same energy.
func TestP3_6EqualEnergies(t *testing.T) {
	for stands := 1; stands <= 5; stands++ {
		for _, thickness := range [][2]int{{7, 7}, {40, 20}, {23, 17}} {
			r := freeRules(thickness[0], thickness[1], stands)
			for _, grid := range []int{3, 10, 50} {
				l := holding(r, grid)
				want := slices.MinFunc(l, func(a, b api.PassSchedule) int { return energiesByHand(r, a) - energiesByHand(r, b) })
				if s, _, e := pass.Cheapest(r, grid); e != api.OK || !alikeSchedules(s, want) {
					t.Error(stands, thickness, grid, s, want, e)
				}
			}
		}
	}
}

func TestP3_7PotentialsOf(t *testing.T) {
	rnd := rand.New(rand.NewSource(37))
	found := 0
	for range 200 {
		r, _, grid := tightCase(rnd, 1+rnd.Intn(3))
		_, n, e := pass.Cheapest(r, grid)
		p, f := pass.PotentialsOf(r, grid)
		if e != f || e != api.OK && len(p) != 0 {
			t.Fatal(r, grid, e, f, p)
		}
		if e != api.OK {
			continue
		}
		found++
		if len(p) != len(r.Stands)+1 || p[0][0] != n || !areValid(r, grid, p) {
			t.Fatal(r, grid, p, n)
		}
		if b, e := pass.CheckBound(r, grid, p); e != api.OK || b != n {
			t.Fatal(r, grid, p, b, e)
		}
	}
	if found < 40 {
		t.Error("too few potentials", found)
	}
}

func zeros(stands, thicknesses int) [][]int {
	var l [][]int
	for range stands + 1 {
		l = append(l, make([]int, thicknesses))
	}
	return l
}

// TestP3_7CheckBound covers the errors in their order.
func TestP3_7CheckBound(t *testing.T) {
	const most = 1000000000000000
	for i, x := range []struct {
		change func(p [][]int) [][]int
		bound  int
		want   api.Errno
	}{
		{func(p [][]int) [][]int { return p }, 0, api.OK},
		{func(p [][]int) [][]int { p[0][0] = -5; return p }, -5, api.OK},
		{func(p [][]int) [][]int { p[0][0] = -most; return p }, -most, api.OK},
		{func(p [][]int) [][]int { p[0][0] = -most - 1; return p }, 0, api.ErrRange},
		{func(p [][]int) [][]int { p[0][0] = most; return p }, 0, api.ErrProof},
		{func(p [][]int) [][]int { p[0][0] = most + 1; return p }, 0, api.ErrRange},
		{func(p [][]int) [][]int { p[0][0] = math.MinInt; return p }, 0, api.ErrRange},
		{func(p [][]int) [][]int { p[2][3] = math.MaxInt; return p }, 0, api.ErrRange},
		{func(p [][]int) [][]int { p[1][4] = -most - 1; return p }, 0, api.ErrRange},
		{func(p [][]int) [][]int { return nil }, 0, api.ErrShape},
		{func(p [][]int) [][]int { return p[:2] }, 0, api.ErrShape},
		{func(p [][]int) [][]int { return append(p, p[0]) }, 0, api.ErrShape},
		{func(p [][]int) [][]int { p[0] = p[0][:4]; return p }, 0, api.ErrShape},
		{func(p [][]int) [][]int { p[2] = append(p[2], 0); return p }, 0, api.ErrShape},
		{func(p [][]int) [][]int { p[1] = nil; return p }, 0, api.ErrShape},
		// shapes come before numbers, these before the form, and that before the proof
		{func(p [][]int) [][]int { p[0][0], p[2] = most+1, nil; return p }, 0, api.ErrShape},
		{func(p [][]int) [][]int { p[0][0], p[2][4] = 300001, 1; return p }, 0, api.ErrForm},
		{func(p [][]int) [][]int { p[0][0], p[2][4] = most+1, 1; return p }, 0, api.ErrRange},
		{func(p [][]int) [][]int { p[2][4] = -1; return p }, 0, api.ErrForm},
		{func(p [][]int) [][]int { p[2][4] = most + 1; return p }, 0, api.ErrRange},
		{func(p [][]int) [][]int { p[0][0] = 1; return p }, 0, api.ErrProof},
		// with the setting 100 to 80 alone a potential may grow by 300000, but the stand may be open
		{func(p [][]int) [][]int { p[0][0] = 300001; return p }, 0, api.ErrProof},
		{func(p [][]int) [][]int { p[0][2] = 1; return p }, 0, api.ErrProof},
		{func(p [][]int) [][]int { p[0][4] = 1; return p }, 0, api.ErrProof},
		{func(p [][]int) [][]int { p[1][3] = 1; return p }, 0, api.ErrProof},
		{func(p [][]int) [][]int { p[2][0] = -1; return p }, 0, api.ErrProof},
		{func(p [][]int) [][]int { p[2][0] = 1; return p }, 0, api.OK},
		{func(p [][]int) [][]int { p[1][1] = -1; return p }, 0, api.ErrProof},
		{func(p [][]int) [][]int { return best() }, 536000, api.OK},
		{func(p [][]int) [][]int { p = best(); p[0][0]++; return p }, 0, api.ErrProof},
		{func(p [][]int) [][]int { p = best(); p[0][0]--; return p }, 535999, api.OK},
		{func(p [][]int) [][]int { p = best(); p[1][2]--; return p }, 0, api.ErrProof},
		{func(p [][]int) [][]int { p = best(); p[1][2]++; return p }, 0, api.ErrProof},
		{func(p [][]int) [][]int { p = best(); p[1][4]--; return p }, 0, api.ErrProof},
	} {
		p := x.change(zeros(2, 5))
		if b, e := pass.CheckBound(exampleRules(), 10, p); b != x.bound || e != x.want {
			t.Error(i, p, b, e)
		}
	}
}

// best are potentials of the example: the least energies to Finish, where 10^15 is
// for those from which nothing leads there.
func best() [][]int {
	const none = 1000000000000000
	second := func(h int) int { return (h - 60) * 10 * (3*(h-60) + 8*(h+60)) }
	first := func(h, g int) int { return (h - g) * 10 * (3*(h-g) + 8*(h+g)) }
	return [][]int{
		{first(100, 80) + second(80), first(90, 70) + second(70), first(80, 70) + second(70), second(70), 0},
		{none, none, second(80), second(70), 0},
		{none, none, none, none, 0},
	}
}

// TestP3_7CheckBoundByTrying changes numbers of valid potentials.
func TestP3_7CheckBoundByTrying(t *testing.T) {
	rnd := rand.New(rand.NewSource(377))
	accepted, refused := 0, 0
	for range 300 {
		r, _, grid := tightCase(rnd, 1+rnd.Intn(3))
		p, e := pass.PotentialsOf(r, grid)
		if e != api.OK {
			p = zeros(len(r.Stands), len(permittedByHand(r, grid)))
		}
		for range 4 {
			stand := rnd.Intn(len(r.Stands))
			p[stand][rnd.Intn(len(p[stand]))] += rnd.Intn(3) - 1
			p[stand][0] = min(p[stand][0], 1000000000000000)
		}
		if p[0][0] = min(p[0][0], 1000000000000000); hasLarge(p) {
			continue
		}
		b, e := pass.CheckBound(r, grid, p)
		switch areValid(r, grid, p) {
		case true:
			accepted++
			if e != api.OK || b != p[0][0] {
				t.Fatal(r, grid, p, b, e)
			}
		case false:
			refused++
			if e != api.ErrProof || b != 0 {
				t.Fatal(r, grid, p, b, e)
			}
		}
	}
	if accepted < 20 || refused < 20 {
		t.Error("too few of a kind", accepted, refused)
	}
}

func hasLarge(p [][]int) bool {
	return slices.ContainsFunc(p, func(l []int) bool { return slices.Max(l) > 1000000000000000 })
}
