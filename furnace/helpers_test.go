package furnace_test

import (
	"math/big"
	"math/rand"
	"slices"
	"testing"

	"cobble/api"
	"cobble/furnace"
)

// The values of the chapter's examples; tests change their own copies of them.

func exampleTable() api.FurnaceTable {
	return tableOf(0, 0, 1000, 100, 2000, 600)
}

func exampleRules() api.FurnaceRules {
	return api.FurnaceRules{Table: exampleTable(), Mix: 10, Emissivity: ends(400, 500)}
}

func exampleSlab() api.FurnaceSlab {
	return api.FurnaceSlab{Nodes: []int{500, 500, 500}, Bottom: 500}
}

func exampleBeam() api.FurnaceBeam {
	return api.FurnaceBeam{Positions: []int{2, 3}, Beat: 4}
}

func exampleFuel() api.FurnaceFuel {
	return api.FurnaceFuel{Sets: [][]int{{1000, 1500}}, Steps: []int{1}, Prices: []int{2}, Target: ends(510, 700)}
}

func exampleGoal() api.FurnaceGoal {
	return api.FurnaceGoal{Route: route(1500, 1), Target: ends(510, 640)}
}

func ends(lo, hi int) api.Range {
	return api.Range{Lo: lo, Hi: hi}
}

// tableOf has points that are given as temperature, radiance, temperature, ...
func tableOf(numbers ...int) api.FurnaceTable {
	var t api.FurnaceTable
	for pair := range slices.Chunk(numbers, 2) {
		t.Points = append(t.Points, api.FurnacePoint{Temperature: pair[0], Radiance: pair[1]})
	}
	return t
}

// route has zones that are given as set, steps, set, ...
func route(numbers ...int) []api.FurnaceZone {
	var l []api.FurnaceZone
	for pair := range slices.Chunk(numbers, 2) {
		l = append(l, api.FurnaceZone{Set: pair[0], Steps: pair[1]})
	}
	return l
}

func slab(bottom int, nodes ...int) api.FurnaceSlab {
	return api.FurnaceSlab{Nodes: nodes, Bottom: bottom}
}

func alikeSlabs(a, b api.FurnaceSlab) bool {
	return slices.Equal(a.Nodes, b.Nodes) && a.Bottom == b.Bottom
}

// wantErrors mends one fault after another, and wants the error of each.
func wantErrors(t *testing.T, call func() api.Errno, steps ...step) {
	t.Helper()
	for i, s := range steps {
		if e := call(); e != s.want {
			t.Errorf("step %d: %v in place of %v", i, e, s.want)
		}
		s.mend()
	}
	if e := call(); e != api.OK {
		t.Errorf("mended: %v", e)
	}
}

// step is an error, and how the fault is mended.
type step struct {
	want api.Errno
	mend func()
}

// The functions 'byHand' follow the definitions of the chapter word by word, with
// big numbers for what is rounded down.

// roundedDown is the product of the numbers above, divided by the one below.
func roundedDown(below int, above ...int) int {
	n := big.NewInt(1)
	for _, a := range above {
		n.Mul(n, big.NewInt(int64(a)))
	}
	// Div is the division whose rest is never negative.
	return int(n.Div(n, big.NewInt(int64(below))).Int64())
}

func radianceByHand(t api.FurnaceTable, x int) int {
	for i, p := range t.Points {
		if i+1 < len(t.Points) && p.Temperature <= x && x < t.Points[i+1].Temperature {
			q := t.Points[i+1]
			return p.Radiance + roundedDown(q.Temperature-p.Temperature, q.Radiance-p.Radiance, x-p.Temperature)
		}
	}
	if x < t.Points[0].Temperature {
		return t.Points[0].Radiance
	}
	return t.Points[len(t.Points)-1].Radiance
}

// warmedByHand is a node after the first half of a step.
func warmedByHand(t api.FurnaceTable, emissivity, set, node, share int) int {
	difference := radianceByHand(t, set) - radianceByHand(t, node)
	return node + roundedDown(1000000, emissivity, difference, share)
}

func mixedByHand(mix int, l []int) []int {
	var mixed []int
	for i, node := range l {
		below, above := node, node
		if i > 0 {
			below = l[i-1]
		}
		if i < len(l)-1 {
			above = l[i+1]
		}
		mixed = append(mixed, roundedDown(100, mix*below+mix*above+(100-2*mix)*node))
	}
	return mixed
}

func steppedByHand(r api.FurnaceRules, s api.FurnaceSlab, emissivity, set int) api.FurnaceSlab {
	l := slices.Clone(s.Nodes)
	n := len(l)
	l[n-1] = warmedByHand(r.Table, emissivity, set, s.Nodes[n-1], 1000)
	l[0] = warmedByHand(r.Table, emissivity, set, s.Nodes[0], s.Bottom)
	return slab(s.Bottom, mixedByHand(r.Mix, l)...)
}

func ranByHand(r api.FurnaceRules, s api.FurnaceSlab, x api.FurnaceRun) []api.FurnaceSlab {
	var l []api.FurnaceSlab
	for _, z := range x.Route {
		for range z.Steps {
			s = steppedByHand(r, s, x.Emissivity, z.Set)
		}
		l = append(l, s)
	}
	return l
}

func enclosedByHand(r api.FurnaceRules, s api.FurnaceSlab, route []api.FurnaceZone) []api.Range {
	low, high := slices.Clone(s.Nodes), slices.Clone(s.Nodes)
	last := len(low) - 1
	for _, z := range route {
		for range z.Steps {
			for i, share := range map[int]int{0: s.Bottom, last: 1000} {
				low[i] = min(warmedByHand(r.Table, r.Emissivity.Lo, z.Set, low[i], share), warmedByHand(r.Table, r.Emissivity.Hi, z.Set, low[i], share))
				high[i] = max(warmedByHand(r.Table, r.Emissivity.Lo, z.Set, high[i], share), warmedByHand(r.Table, r.Emissivity.Hi, z.Set, high[i], share))
			}
			low, high = mixedByHand(r.Mix, low), mixedByHand(r.Mix, high)
		}
	}
	var l []api.Range
	for i := range low {
		l = append(l, ends(low[i], high[i]))
	}
	return l
}

// hullOf is the range from the lowest lower end to the highest upper end.
func hullOf(l []api.Range) api.Range {
	hull := l[0]
	for _, r := range l {
		hull = ends(min(hull.Lo, r.Lo), max(hull.Hi, r.Hi))
	}
	return hull
}

func answerByHand(l []api.Range, target api.Range) int {
	answer := api.AnswerYes
	for _, r := range l {
		common := ends(max(r.Lo, target.Lo), min(r.Hi, target.Hi))
		switch {
		case common.Lo > common.Hi:
			return api.AnswerNo
		case common != r:
			answer = api.AnswerMaybe
		}
	}
	return answer
}

// The functions 'random' return valid values, among them those at the limits.

// randomFrom is a number from lo to hi, often one of both.
func randomFrom(rnd *rand.Rand, lo, hi int) int {
	switch rnd.Intn(8) {
	case 0:
		return lo
	case 1:
		return hi
	}
	return lo + rnd.Intn(hi-lo+1)
}

func randomEnds(rnd *rand.Rand, lo, hi int) api.Range {
	a, b := randomFrom(rnd, lo, hi), randomFrom(rnd, lo, hi)
	return ends(min(a, b), max(a, b))
}

func randomTable(rnd *rand.Rand) api.FurnaceTable {
	var t api.FurnaceTable
	p := api.FurnacePoint{Temperature: rnd.Intn(300), Radiance: rnd.Intn(300)}
	for range 1 + rnd.Intn(api.MaxFurnacePoints) {
		t.Points = append(t.Points, p)
		rise := 1 + rnd.Intn(2000)
		p.Temperature += rise
		p.Radiance += randomFrom(rnd, 0, rise)
	}
	if t.Points[len(t.Points)-1].Temperature > api.MaxFurnaceTemperature {
		return randomTable(rnd)
	}
	return t
}

func randomRules(rnd *rand.Rand) api.FurnaceRules {
	return api.FurnaceRules{Table: randomTable(rnd), Mix: randomFrom(rnd, 0, 50), Emissivity: randomEnds(rnd, 0, 1000)}
}

func randomSlab(rnd *rand.Rand) api.FurnaceSlab {
	s := slab(randomFrom(rnd, 0, 1000))
	for range 2 + rnd.Intn(api.MaxFurnaceNodes-1) {
		s.Nodes = append(s.Nodes, randomFrom(rnd, 0, 20000))
	}
	return s
}

func randomRoute(rnd *rand.Rand, zones, steps int) []api.FurnaceZone {
	var l []api.FurnaceZone
	for range zones {
		l = append(l, api.FurnaceZone{Set: randomFrom(rnd, 0, 20000), Steps: rnd.Intn(steps + 1)})
	}
	return l
}

// randomFuel has a target near to what one of its choices gives.
func randomFuel(rnd *rand.Rand, r api.FurnaceRules, s api.FurnaceSlab) api.FurnaceFuel {
	var x api.FurnaceFuel
	var l []api.FurnaceZone
	for range 1 + rnd.Intn(4) {
		set := rnd.Intn(15000)
		var sets []int
		for range 1 + rnd.Intn(3) {
			sets = append(sets, set)
			set += 1 + rnd.Intn(1500)
		}
		x.Sets = append(x.Sets, sets)
		x.Steps = append(x.Steps, 1+rnd.Intn(12))
		x.Prices = append(x.Prices, rnd.Intn(4))
		l = append(l, api.FurnaceZone{Set: sets[rnd.Intn(len(sets))], Steps: x.Steps[len(x.Steps)-1]})
	}
	hull := hullOf(enclosedByHand(r, s, l))
	x.Target = ends(max(0, hull.Lo-rnd.Intn(20)), min(20000, hull.Hi+rnd.Intn(20)))
	return x
}

// A heated case is rules and a slab for which the choices of a fuel differ: the
// slab is warmed as a whole, and not at once.
func heatedCase(rnd *rand.Rand) (api.FurnaceRules, api.FurnaceSlab, api.FurnaceFuel) {
	lo := 100 + rnd.Intn(300)
	r := api.FurnaceRules{Table: tableOf(0, 0, 5000, rnd.Intn(2500), 20000, 3000+rnd.Intn(12000)), Mix: 10 + rnd.Intn(41), Emissivity: ends(lo, lo+rnd.Intn(20))}
	s := slab(rnd.Intn(1001))
	for range 2 + rnd.Intn(3) {
		s.Nodes = append(s.Nodes, 4000+rnd.Intn(5000))
	}
	return r, s, randomFuel(rnd, r, s)
}

// allChoices are the choices of a fuel in lexicographic order.
func allChoices(x api.FurnaceFuel) [][]int {
	l := [][]int{nil}
	for _, sets := range x.Sets {
		var longer [][]int
		for _, choice := range l {
			for i := range sets {
				longer = append(longer, append(slices.Clone(choice), i))
			}
		}
		l = longer
	}
	return l
}

func fuelByHand(x api.FurnaceFuel, choice []int) int {
	fuel := 0
	for zone, sets := range setsOf(x, choice) {
		fuel += sets * x.Prices[zone]
	}
	return fuel
}

// setsOf are the temperatures that a choice sets.
func setsOf(x api.FurnaceFuel, choice []int) []int {
	var l []int
	for zone, i := range choice {
		l = append(l, x.Sets[zone][i])
	}
	return l
}

func routeFor(x api.FurnaceFuel, choice []int) []api.FurnaceZone {
	var l []api.FurnaceZone
	for zone, set := range setsOf(x, choice) {
		l = append(l, api.FurnaceZone{Set: set, Steps: x.Steps[zone]})
	}
	return l
}

// coldOrHot tells whether a choice is too cold, and whether it is too hot.
func coldOrHot(r api.FurnaceRules, s api.FurnaceSlab, x api.FurnaceFuel, choice []int) (cold, hot bool) {
	for _, e := range enclosedByHand(r, s, routeFor(x, choice)) {
		cold = cold || e.Lo < x.Target.Lo
		hot = hot || e.Hi > x.Target.Hi
	}
	return cold, hot
}

// belowByHand compares the temperatures that two choices set.
func belowByHand(x api.FurnaceFuel, a, b []int) bool {
	other := setsOf(x, b)
	for zone, set := range setsOf(x, a) {
		if set > other[zone] {
			return false
		}
	}
	return true
}

// firstOpen is the lexicographically first choice that is cheaper than that of a
// proof and not excluded by it, or nil.
func firstOpen(x api.FurnaceFuel, p api.FurnaceProof) []int {
	for _, choice := range allChoices(x) {
		if fuelByHand(x, choice) >= fuelByHand(x, p.Choice) {
			continue
		}
		open := true
		for _, cold := range p.Cold {
			open = open && !belowByHand(x, choice, cold)
		}
		for _, hot := range p.Hot {
			open = open && !belowByHand(x, hot, choice)
		}
		if open {
			return choice
		}
	}
	return nil
}

func mustHeat(t *testing.T, r api.FurnaceRules, s api.FurnaceSlab, emissivity, set int) api.FurnaceSlab {
	t.Helper()
	x, e := furnace.Heated(r, s, api.FurnaceStep{Emissivity: emissivity, Set: set})
	if e != api.OK {
		t.Fatal(r, s, emissivity, set, e)
	}
	return x
}
