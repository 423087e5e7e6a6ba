package pass_test

import (
	"math/big"
	"math/rand"
	"slices"
	"testing"

	"cobble/api"
)

// The values of the chapter's examples; tests change their own copies of them.

// exampleRules are the rules of the examples 4 to 8.
func exampleRules() api.PassRules {
	return api.PassRules{
		Width: 10, Start: 100, Finish: 60, Heat: ends(10000, 10000), Coldest: 9000, Stress: ends(2, 3), Friction: ends(7, 8),
		Stands: []api.PassStand{stand(300, 20000, 400000, 0, 100), stand(300, 20000, 400000, 0, 100)},
	}
}

// firstRules are the rules of the examples 1 and 2.
func firstRules() api.PassRules {
	r := exampleRules()
	r.Friction = ends(10, 20)
	for i := range r.Stands {
		r.Stands[i].Force = 10000
	}
	return r
}

func exampleSchedule() api.PassSchedule {
	return schedule(80, 60)
}

func exampleMaterial() api.PassMaterial {
	return material(2, 8, 10000, 50, 50)
}

func ends(lo, hi int) api.Range {
	return api.Range{Lo: lo, Hi: hi}
}

func stand(radius, force, torque, lo, hi int) api.PassStand {
	return api.PassStand{Radius: radius, Force: force, Torque: torque, Loss: ends(lo, hi)}
}

func schedule(thicknesses ...int) api.PassSchedule {
	return api.PassSchedule{Name: "best", Thicknesses: thicknesses}
}

func material(stress, friction, heat int, losses ...int) api.PassMaterial {
	return api.PassMaterial{Stress: stress, Friction: friction, Heat: heat, Losses: losses}
}

func block(stand int, limits ...int) api.PassBlock {
	return api.PassBlock{Stand: stand, Limits: limits}
}

func alikeBlocks(a, b api.PassBlock) bool {
	return a.Stand == b.Stand && slices.Equal(a.Limits, b.Limits)
}

func alikeSchedules(a, b api.PassSchedule) bool {
	return a.Name == b.Name && slices.Equal(a.Thicknesses, b.Thicknesses)
}

func frac(num, den int) api.Frac {
	return api.Frac{Num: num, Den: den}
}

// freeRules have stands that bear nearly everything, and rolls that grip it.
func freeRules(start, finish, stands int) api.PassRules {
	r := api.PassRules{Width: 1, Start: start, Finish: finish, Heat: ends(20000, 20000), Stress: ends(1, 1), Friction: ends(100, 100)}
	for range stands {
		r.Stands = append(r.Stands, stand(1000, api.MaxPassLimit, api.MaxPassLimit, 0, 0))
	}
	return r
}

func copyRules(r api.PassRules) api.PassRules {
	r.Stands = slices.Clone(r.Stands)
	return r
}

// wantErrors mends one fault after another, and wants the error of each.
func wantErrors(t *testing.T, call func() api.Errno, steps ...step) {
	t.Helper()
	for i, s := range steps {
		if e := call(); e != s.want {
			t.Errorf("step %d: %v in place of %v", i, e, s.want)
		}
		s.mend()
	}
	if e := call(); e != api.OK {
		t.Errorf("mended: %v", e)
	}
}

// step is an error, and how the fault is mended.
type step struct {
	want api.Errno
	mend func()
}

// The functions 'byHand' follow the definitions of the chapter word by word, with
// fractions of any size.

func whole(n int) *big.Rat {
	return new(big.Rat).SetInt64(int64(n))
}

func ratio(num, den int) *big.Rat {
	return big.NewRat(int64(num), int64(den))
}

func sum(l ...*big.Rat) *big.Rat {
	s := new(big.Rat)
	for _, x := range l {
		s.Add(s, x)
	}
	return s
}

func product(l ...*big.Rat) *big.Rat {
	p := whole(1)
	for _, x := range l {
		p.Mul(p, x)
	}
	return p
}

func minus(x *big.Rat) *big.Rat {
	return new(big.Rat).Neg(x)
}

func fracOf(x *big.Rat) api.Frac {
	return frac(int(x.Num().Int64()), int(x.Denom().Int64()))
}

func wholeOf(t *testing.T, x *big.Rat) int {
	t.Helper()
	if !x.IsInt() {
		t.Fatal("not whole", x)
	}
	return int(x.Num().Int64())
}

// load is what a stand does for a material.
type load struct{ force, torque, bite, heat *big.Rat }

func forceByHand(r api.PassRules, x api.PassMaterial, before, after int) *big.Rat {
	if before == after {
		return whole(0)
	}
	return product(whole(r.Width), sum(product(whole(x.Stress), whole(before-after)), product(whole(x.Friction), sum(whole(before), whole(after)))))
}

func loadByHand(r api.PassRules, x api.PassMaterial, at, before, after int, heat *big.Rat) load {
	d := whole(before - after)
	force := forceByHand(r, x, before, after)
	bite := sum(ratio(x.Friction*r.Stands[at].Radius, 100), minus(d))
	if before == after {
		bite = whole(0)
	}
	return load{force, product(force, d), bite, sum(heat, whole(-x.Losses[at]), product(whole(x.Stress), d, ratio(1, 100)))}
}

// loadsByHand are the loads of all stands for a material.
func loadsByHand(r api.PassRules, s api.PassSchedule, x api.PassMaterial) []load {
	var l []load
	before, heat := r.Start, whole(x.Heat)
	for i, h := range s.Thicknesses {
		l = append(l, loadByHand(r, x, i, before, h, heat))
		before, heat = h, l[i].heat
	}
	return l
}

func (l load) margins(r api.PassRules, at int) [api.PassLimits]*big.Rat {
	return [api.PassLimits]*big.Rat{
		sum(whole(r.Stands[at].Force), minus(l.force)),
		sum(whole(r.Stands[at].Torque), minus(l.torque)),
		l.bite,
		sum(l.heat, whole(-r.Coldest)),
	}
}

// materialsOf are the materials whose numbers are ends of the ranges.
func materialsOf(r api.PassRules) []api.PassMaterial {
	l := []api.PassMaterial{{}}
	with := func(x api.Range, set func(m *api.PassMaterial, n int)) {
		var longer []api.PassMaterial
		for _, m := range l {
			for _, n := range slices.Compact([]int{x.Lo, x.Hi}) {
				m.Losses = slices.Clone(m.Losses)
				c := m
				set(&c, n)
				longer = append(longer, c)
			}
		}
		l = longer
	}
	with(r.Stress, func(m *api.PassMaterial, n int) { m.Stress = n })
	with(r.Friction, func(m *api.PassMaterial, n int) { m.Friction = n })
	with(r.Heat, func(m *api.PassMaterial, n int) { m.Heat = n })
	for _, s := range r.Stands {
		with(s.Loss, func(m *api.PassMaterial, n int) { m.Losses = append(slices.Clone(m.Losses), n) })
	}
	return l
}

// rangeOver is the range of a number over all materials.
func rangeOver(r api.PassRules, of func(x api.PassMaterial) *big.Rat) (lo, hi *big.Rat) {
	for _, x := range materialsOf(r) {
		n := of(x)
		if lo == nil || n.Cmp(lo) < 0 {
			lo = n
		}
		if hi == nil || n.Cmp(hi) > 0 {
			hi = n
		}
	}
	return lo, hi
}

// marginsByHand are the margins for all materials at a stand, with both ends.
func marginsByHand(r api.PassRules, s api.PassSchedule, at, limit int) (lo, hi *big.Rat) {
	return rangeOver(r, func(x api.PassMaterial) *big.Rat { return loadsByHand(r, s, x)[at].margins(r, at)[limit] })
}

func keepsByHand(r api.PassRules, s api.PassSchedule, x api.PassMaterial) bool {
	for at, l := range loadsByHand(r, s, x) {
		for _, margin := range l.margins(r, at) {
			if margin.Sign() < 0 {
				return false
			}
		}
	}
	return true
}

func answerByHand(r api.PassRules, s api.PassSchedule) int {
	answer := api.AnswerYes
	for at := range s.Thicknesses {
		for limit := range api.PassLimits {
			lo, hi := marginsByHand(r, s, at, limit)
			if hi.Sign() < 0 {
				return api.AnswerNo
			}
			if lo.Sign() < 0 {
				answer = api.AnswerMaybe
			}
		}
	}
	return answer
}

// weakestByHand returns whether there is a weakest place, too.
func weakestByHand(r api.PassRules, s api.PassSchedule) (api.PassBlock, bool) {
	for at := range s.Thicknesses {
		var l []int
		for limit := range api.PassLimits {
			if lo, _ := marginsByHand(r, s, at, limit); lo.Sign() < 0 {
				l = append(l, limit)
			}
		}
		if len(l) > 0 {
			return block(at, l...), true
		}
	}
	return api.PassBlock{}, false
}

// energyByHand is the energy of a setting.
func energyByHand(r api.PassRules, before, after int) int {
	_, hi := rangeOver(r, func(x api.PassMaterial) *big.Rat {
		return product(forceByHand(r, x, before, after), whole(before-after))
	})
	return int(hi.Num().Int64())
}

func energiesByHand(r api.PassRules, s api.PassSchedule) int {
	n, before := 0, r.Start
	for _, h := range s.Thicknesses {
		n += energyByHand(r, before, h)
		before = h
	}
	return n
}

func reducingByHand(r api.PassRules, s api.PassSchedule) int {
	n, before := 0, r.Start
	for _, h := range s.Thicknesses {
		if h != before {
			n++
		}
		before = h
	}
	return n
}

// permittedByHand are the thicknesses of a grid, descending.
func permittedByHand(r api.PassRules, grid int) []int {
	l := []int{r.Start, r.Finish}
	for n := grid; n < r.Start; n += grid {
		if n > r.Finish {
			l = append(l, n)
		}
	}
	slices.Sort(l)
	l = slices.Compact(l)
	slices.Reverse(l)
	return l
}

// allSchedules are the schedules on a grid in lexicographic order.
func allSchedules(r api.PassRules, grid int) []api.PassSchedule {
	ascending := permittedByHand(r, grid)
	slices.Reverse(ascending)
	begun := [][]int{nil}
	for range r.Stands {
		var longer [][]int
		for _, l := range begun {
			for _, h := range ascending {
				if len(l) == 0 || h <= l[len(l)-1] {
					longer = append(longer, append(slices.Clone(l), h))
				}
			}
		}
		begun = longer
	}
	var all []api.PassSchedule
	for _, l := range begun {
		if l[len(l)-1] == r.Finish {
			all = append(all, schedule(l...))
		}
	}
	return all
}

// holding are the schedules on a grid that hold with AnswerYes.
func holding(r api.PassRules, grid int) []api.PassSchedule {
	return slices.DeleteFunc(allSchedules(r, grid), func(s api.PassSchedule) bool { return answerByHand(r, s) != api.AnswerYes })
}

// isSetting tells whether a stand has a setting by some limits alone.
func isSetting(r api.PassRules, at, before, after int, limits []int) bool {
	for _, limit := range limits {
		lo, _ := rangeOver(r, func(x api.PassMaterial) *big.Rat {
			heat := sum(whole(x.Heat), product(whole(x.Stress), ratio(r.Start-before, 100)))
			for _, loss := range x.Losses[:at] {
				heat.Sub(heat, whole(loss))
			}
			return loadByHand(r, x, at, before, after, heat).margins(r, at)[limit]
		})
		if lo.Sign() < 0 {
			return false
		}
	}
	return true
}

// nextByHand are the thicknesses that are reached after a stand from others.
func nextByHand(r api.PassRules, grid, at int, reached, limits []int) []int {
	var l []int
	for _, g := range permittedByHand(r, grid) {
		if at == len(r.Stands)-1 && g != r.Finish {
			continue
		}
		for _, h := range reached {
			if g <= h && isSetting(r, at, h, g, limits) {
				l = append(l, g)
				break
			}
		}
	}
	return l
}

// setsOfLimits are all sets of limits: by their sizes, then in lexicographic order.
func setsOfLimits() [][]int {
	var l [][]int
	for bits := range 1 << api.PassLimits {
		var set []int
		for limit := range api.PassLimits {
			if bits>>limit&1 == 1 {
				set = append(set, limit)
			}
		}
		l = append(l, set)
	}
	slices.SortFunc(l, func(a, b []int) int {
		if len(a) != len(b) {
			return len(a) - len(b)
		}
		return slices.Compare(a, b)
	})
	return l
}

// blockByHand returns whether there is a block, too.
func blockByHand(r api.PassRules, grid int) (api.PassBlock, bool) {
	reached := []int{r.Start}
	for at := range r.Stands {
		next := nextByHand(r, grid, at, reached, []int{0, 1, 2, 3})
		if len(next) > 0 {
			reached = next
			continue
		}
		for _, limits := range setsOfLimits() {
			if len(nextByHand(r, grid, at, reached, limits)) == 0 {
				return block(at, limits...), true
			}
		}
	}
	return api.PassBlock{}, false
}

// areValid tells whether potentials are valid.
func areValid(r api.PassRules, grid int, potentials [][]int) bool {
	l := permittedByHand(r, grid)
	for at := range r.Stands {
		for i, h := range l {
			for j, g := range l[i:] {
				if potentials[at][i] > energyByHand(r, h, g)+potentials[at+1][i+j] && isSetting(r, at, h, g, []int{0, 1, 2, 3}) {
					return false
				}
			}
		}
	}
	return potentials[len(r.Stands)][len(l)-1] == 0
}

// The functions 'random' return valid values, among them those at the limits.

// randomFrom is a number from lo to hi, often one of both.
func randomFrom(rnd *rand.Rand, lo, hi int) int {
	switch rnd.Intn(8) {
	case 0:
		return lo
	case 1:
		return hi
	}
	return lo + rnd.Intn(hi-lo+1)
}

func randomEnds(rnd *rand.Rand, lo, hi int) api.Range {
	a, b := randomFrom(rnd, lo, hi), randomFrom(rnd, lo, hi)
	return ends(min(a, b), max(a, b))
}

// randomRules have numbers from all of their ranges.
func randomRules(rnd *rand.Rand) api.PassRules {
	thickness := randomEnds(rnd, 1, api.MaxPassThickness)
	r := api.PassRules{
		Width: randomFrom(rnd, 1, api.MaxPassWidth), Start: thickness.Hi, Finish: thickness.Lo,
		Heat: randomEnds(rnd, 0, api.MaxPassHeat), Coldest: randomFrom(rnd, 0, api.MaxPassHeat),
		Stress: randomEnds(rnd, 1, api.MaxPassStress), Friction: randomEnds(rnd, 0, api.MaxPassFriction),
	}
	for range 1 + rnd.Intn(api.MaxPassStands) {
		loss := randomEnds(rnd, 0, api.MaxPassLoss)
		r.Stands = append(r.Stands, stand(randomFrom(rnd, 1, api.MaxPassRadius), randomFrom(rnd, 0, api.MaxPassLimit), randomFrom(rnd, 0, api.MaxPassLimit), loss.Lo, loss.Hi))
	}
	return r
}

func randomSchedule(rnd *rand.Rand, r api.PassRules) api.PassSchedule {
	var l []int
	for range r.Stands {
		l = append(l, randomFrom(rnd, r.Finish, r.Start))
	}
	l[len(l)-1] = r.Finish
	slices.Sort(l)
	slices.Reverse(l)
	return schedule(l...)
}

func randomMaterial(rnd *rand.Rand, r api.PassRules) api.PassMaterial {
	in := func(x api.Range) int { return randomFrom(rnd, x.Lo, x.Hi) }
	x := material(in(r.Stress), in(r.Friction), in(r.Heat))
	for _, s := range r.Stands {
		x.Losses = append(x.Losses, in(s.Loss))
	}
	return x
}

// A tight case is rules, and a schedule on a grid for which some of the limits are
// just kept, or just broken, for some materials.
func tightCase(rnd *rand.Rand, stands int) (api.PassRules, api.PassSchedule, int) {
	grid := 5 + rnd.Intn(11)
	finish := 20 + rnd.Intn(40)
	r := api.PassRules{Width: 1 + rnd.Intn(3), Start: finish + rnd.Intn(4*grid), Finish: finish, Stress: ends(5, 5+rnd.Intn(3)), Friction: ends(8, 8+rnd.Intn(2))}
	heat := 5000 + rnd.Intn(100)
	r.Heat = ends(heat, heat+rnd.Intn(3))
	for range stands {
		loss := rnd.Intn(3)
		r.Stands = append(r.Stands, stand(1, 0, 0, loss, loss+rnd.Intn(3)))
	}
	all := allSchedules(r, grid)
	s := all[rnd.Intn(len(all))]
	tighten(rnd, &r, s)
	return r, s, grid
}

// tighten gives stands limits near to what a schedule needs.
func tighten(rnd *rand.Rand, r *api.PassRules, s api.PassSchedule) {
	near := func(n, by int) int { return max(0, n+randomFrom(rnd, -by, 3*by)) }
	before, coldest := r.Start, r.Heat.Lo
	for at, h := range s.Thicknesses {
		torque := energyByHand(*r, before, h)
		r.Stands[at].Force = near(torque/max(1, before-h), 40)
		r.Stands[at].Torque = near(torque, 400)
		r.Stands[at].Radius = max(1, near((before-h)*100/r.Friction.Lo, 10))
		if rnd.Intn(3) == 0 {
			r.Stands[at].Force = near(5000, 1000)
			r.Stands[at].Torque = near(100000, 20000)
			r.Stands[at].Radius = 300
		}
		coldest -= r.Stands[at].Loss.Hi
		before = h
	}
	r.Coldest = coldest + randomFrom(rnd, -4, 3)
}
