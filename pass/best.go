package pass

import (
	"slices"

	"cobble/api"
)

// bestName is the name of a cheapest schedule.
const bestName = "best"

// maxPotential is the greatest size of a potential. It stands for a thickness, too,
// from which no settings lead to Finish: no sum of energies is as great.
const maxPotential = 1000000000000000

// leastFrom is, for each permitted thickness before each stand and after the last
// one, the minimum sum of prices of settings that lead from it to Finish.
func (t table) leastFrom(price func(mill, draught) int) [][]int {
	l := make([][]int, len(t.Stands)+1)
	for i := range l {
		l[i] = slices.Repeat([]int{maxPotential}, len(t.permitted))
	}
	l[len(t.Stands)][t.finish()] = 0
	for stand := len(t.Stands) - 1; stand >= 0; stand-- {
		for before, after := range t.settings(stand, allLimits()...) {
			sum := price(t.mill, t.draughtAt(stand, before, after)) + l[stand+1][after]
			l[stand][before] = min(l[stand][before], sum)
		}
	}
	return l
}

// leastBy returns a table, and the minimum sums of prices in it: the errors of the
// rules and the grid, and ErrNone if no schedule holds for every material.
func leastBy(r api.PassRules, grid int, price func(mill, draught) int) (table, [][]int, api.Errno) {
	t, e := tableOf(r, grid)
	if e != api.OK {
		return table{}, nil, e
	}
	least := t.leastFrom(price)
	if least[0][0] == maxPotential {
		return table{}, nil, api.ErrNone
	}
	return t, least, api.OK
}

// Cheapest returns the cheapest schedule on a grid, and its energy.
func Cheapest(r api.PassRules, grid int) (api.PassSchedule, int, api.Errno) {
	t, least, e := leastBy(r, grid, mill.energy)
	if e != api.OK {
		return api.PassSchedule{}, 0, e
	}
	s := api.PassSchedule{Name: bestName}
	at := 0
	for stand := range t.Stands {
		at = t.nextOf(stand, at, least)
		s.Thicknesses = append(s.Thicknesses, t.permitted[at])
	}
	return s, least[0][0], api.OK
}

// nextOf is to where the setting of a stand leads that begins a way of the minimum
// energy. Of several it is the last one: thicknesses are descending in a table.
func (t table) nextOf(stand, at int, least [][]int) int {
	next := at
	for before, after := range t.settings(stand, allLimits()...) {
		if before == at && least[stand][at] == t.energy(t.draughtAt(stand, before, after))+least[stand+1][after] {
			next = after
		}
	}
	return next
}

// FewestOf returns the minimum number of stands that are not open.
func FewestOf(r api.PassRules, grid int) (int, api.Errno) {
	_, least, e := leastBy(r, grid, func(_ mill, d draught) int {
		if d.isOpen() {
			return 0
		}
		return 1
	})
	if e != api.OK {
		return 0, e
	}
	return least[0][0], api.OK
}

// PotentialsOf returns potentials that prove that no schedule is cheaper than the
// cheapest one.
func PotentialsOf(r api.PassRules, grid int) ([][]int, api.Errno) {
	_, least, e := leastBy(r, grid, mill.energy)
	return least, e
}

// CheckBound accepts valid potentials, and returns their bound.
func CheckBound(r api.PassRules, grid int, potentials [][]int) (int, api.Errno) {
	t, e := tableOf(r, grid)
	if e != api.OK {
		return 0, e
	}
	if e := t.checkPotentials(potentials); e != api.OK {
		return 0, e
	}
	return potentials[0][0], api.OK
}

func (t table) checkPotentials(potentials [][]int) api.Errno {
	last := len(t.Stands)
	if len(potentials) != last+1 {
		return api.ErrShape
	}
	for _, l := range potentials {
		if len(l) != len(t.permitted) {
			return api.ErrShape
		}
	}
	for _, l := range potentials {
		if e := checkWithin(-maxPotential, maxPotential, l...); e != api.OK {
			return e
		}
	}
	if potentials[last][t.finish()] != 0 {
		return api.ErrForm
	}
	for stand := range t.Stands {
		for before, after := range t.settings(stand, allLimits()...) {
			if potentials[stand][before] > t.energy(t.draughtAt(stand, before, after))+potentials[stand+1][after] {
				return api.ErrProof
			}
		}
	}
	return api.OK
}
