package furnace

import (
	"iter"
	"slices"

	"cobble/api"
)

func checkFuel(x api.FurnaceFuel) api.Errno {
	zones := len(x.Sets)
	switch {
	case zones == 0, len(x.Steps) != zones, len(x.Prices) != zones:
		return api.ErrShape
	case zones > api.MaxFurnaceZones:
		return api.ErrLarge
	}
	for zone, sets := range x.Sets {
		e := firstError(checkSets(sets),
			limit(1, api.MaxFurnaceSteps)(x.Steps[zone]),
			limit(0, api.MaxFurnacePrice)(x.Prices[zone]))
		if e != api.OK {
			return e
		}
	}
	return checkTarget(x.Target)
}

// checkSets returns the error of the temperatures of a zone.
func checkSets(sets []int) api.Errno {
	switch {
	case len(sets) == 0:
		return api.ErrShape
	case len(sets) > api.MaxFurnaceChoices:
		return api.ErrLarge
	}
	for i, set := range sets {
		if e := checkTemperatures(set); e != api.OK {
			return e
		}
		if i > 0 && set <= sets[i-1] {
			return api.ErrOrder
		}
	}
	return api.OK
}

// checkChoice returns the error of a choice of fuel that has none.
func checkChoice(x api.FurnaceFuel, choice []int) api.Errno {
	if len(choice) != len(x.Sets) {
		return api.ErrShape
	}
	for zone, i := range choice {
		if i < 0 || i >= len(x.Sets[zone]) {
			return api.ErrMissing
		}
	}
	return api.OK
}

func fuelOf(x api.FurnaceFuel, choice []int) int {
	fuel := 0
	for zone, i := range choice {
		fuel += x.Prices[zone] * x.Sets[zone][i]
	}
	return fuel
}

// FuelOf returns the fuel of a choice.
func FuelOf(x api.FurnaceFuel, choice []int) (int, api.Errno) {
	if e := checkFuel(x); e != api.OK {
		return 0, e
	}
	if e := checkChoice(x, choice); e != api.OK {
		return 0, e
	}
	return fuelOf(x, choice), api.OK
}

// fired is a heated slab, and the fuel among whose sets is chosen for it.
type fired struct {
	heated
	api.FurnaceFuel
}

// firedOf returns the errors of the rules, the slab and the fuel, and of too many
// choices.
func firedOf(r api.FurnaceRules, s api.FurnaceSlab, x api.FurnaceFuel) (fired, api.Errno) {
	h, e := heatedOf(r, s)
	if e := firstError(e, checkFuel(x)); e != api.OK {
		return fired{}, e
	}
	choices := 1
	for _, sets := range x.Sets {
		choices *= len(sets)
	}
	if choices > api.MaxFurnaceProof {
		return fired{}, api.ErrLarge
	}
	return fired{h, x}, api.OK
}

// choices yields all choices in lexicographic order. What is yielded is not kept
// by it.
func (f fired) choices() iter.Seq[[]int] {
	return func(yield func([]int) bool) {
		f.extend(nil, yield)
	}
}

// extend yields the choices that begin with begun; it returns whether more of them
// are wanted.
func (f fired) extend(begun []int, yield func([]int) bool) bool {
	if len(begun) == len(f.Sets) {
		return yield(begun)
	}
	for i := range f.Sets[len(begun)] {
		if !f.extend(append(slices.Clone(begun), i), yield) {
			return false
		}
	}
	return true
}

// cheaper yields the choices that need less than a fuel, in lexicographic order.
func (f fired) cheaper(fuel int) iter.Seq[[]int] {
	return func(yield func([]int) bool) {
		for choice := range f.choices() {
			if fuelOf(f.FurnaceFuel, choice) < fuel && !yield(choice) {
				return
			}
		}
	}
}

// judge tells whether a choice is too cold, and whether it is too hot; it may be
// both, and is suitable if it is neither.
func (f fired) judge(choice []int) (cold, hot bool) {
	c := f.enclosed()
	for zone, i := range choice {
		c.take(api.FurnaceZone{Set: f.Sets[zone][i], Steps: f.Steps[zone]})
	}
	return slices.Min(c.low.Nodes) < f.Target.Lo, slices.Max(c.high.Nodes) > f.Target.Hi
}

func (f fired) isSuitable(choice []int) bool {
	cold, hot := f.judge(choice)
	return !cold && !hot
}

// cheapest returns the cheapest choice and its fuel, or nothing if no choice is
// suitable.
func (f fired) cheapest() ([]int, int) {
	var best []int
	least := 0
	for choice := range f.choices() {
		fuel := fuelOf(f.FurnaceFuel, choice)
		// Of several choices with the same fuel the first one stays.
		if (best == nil || fuel < least) && f.isSuitable(choice) {
			best, least = slices.Clone(choice), fuel
		}
	}
	return best, least
}

// CheapestSets returns the cheapest choice, and its fuel.
func CheapestSets(r api.FurnaceRules, s api.FurnaceSlab, x api.FurnaceFuel) ([]int, int, api.Errno) {
	f, e := firedOf(r, s, x)
	if e != api.OK {
		return nil, 0, e
	}
	best, least := f.cheapest()
	if best == nil {
		return nil, 0, api.ErrNone
	}
	return best, least, api.OK
}
