package furnace

import (
	"slices"

	"cobble/api"
)

// isBelow tells whether no number of a choice is greater than that of another one:
// the sets of a zone are ascending, so that their indexes are compared.
func isBelow(a, b []int) bool {
	for zone, i := range a {
		if i > b[zone] {
			return false
		}
	}
	return true
}

// excludes tells whether a proof shows that a choice is not suitable.
func excludes(p api.FurnaceProof, choice []int) bool {
	return slices.ContainsFunc(p.Cold, func(cold []int) bool { return isBelow(choice, cold) }) ||
		slices.ContainsFunc(p.Hot, func(hot []int) bool { return isBelow(hot, choice) })
}

// FuelProofOf returns a proof that the cheapest choice has the minimum fuel.
func FuelProofOf(r api.FurnaceRules, s api.FurnaceSlab, x api.FurnaceFuel) (api.FurnaceProof, api.Errno) {
	f, e := firedOf(r, s, x)
	if e != api.OK {
		return api.FurnaceProof{}, e
	}
	best, least := f.cheapest()
	if best == nil {
		return api.FurnaceProof{}, api.ErrNone
	}
	return f.proofFor(best, least), api.OK
}

// proofFor excludes all choices that are cheaper than the cheapest one. A choice
// comes after all those below it, so that Cold is collected from the last one on,
// and Hot from the first one on: few of them exclude many.
func (f fired) proofFor(best []int, least int) api.FurnaceProof {
	p := api.FurnaceProof{Choice: best}
	var cheaper [][]int
	for choice := range f.cheaper(least) {
		cheaper = append(cheaper, slices.Clone(choice))
	}
	for _, choice := range slices.Backward(cheaper) {
		if excludes(p, choice) {
			continue
		}
		if cold, _ := f.judge(choice); cold {
			p.Cold = append(p.Cold, choice)
		}
	}
	// What is cheaper is not suitable, so that it is too hot if it is not too cold.
	for _, choice := range cheaper {
		if !excludes(p, choice) {
			p.Hot = append(p.Hot, choice)
		}
	}
	return p
}

// CheckFuelProof accepts a proof, or returns the first choice that it does not
// exclude.
func CheckFuelProof(r api.FurnaceRules, s api.FurnaceSlab, x api.FurnaceClaim) ([]int, api.Errno) {
	f, e := firedOf(r, s, x.Fuel)
	if e != api.OK {
		return nil, e
	}
	if e := f.checkProof(x.Proof); e != api.OK {
		return nil, e
	}
	for choice := range f.cheaper(fuelOf(x.Fuel, x.Proof.Choice)) {
		if !excludes(x.Proof, choice) {
			return slices.Clone(choice), api.ErrProof
		}
	}
	return nil, api.OK
}

// checkProof returns the error of a proof, whatever it excludes.
func (f fired) checkProof(p api.FurnaceProof) api.Errno {
	if len(p.Cold) > api.MaxFurnaceProof || len(p.Hot) > api.MaxFurnaceProof {
		return api.ErrLarge
	}
	for _, choice := range slices.Concat([][]int{p.Choice}, p.Cold, p.Hot) {
		if e := checkChoice(f.FurnaceFuel, choice); e != api.OK {
			return e
		}
	}
	if !f.isSuitable(p.Choice) {
		return api.ErrRefused
	}
	for _, choice := range p.Cold {
		if cold, _ := f.judge(choice); !cold {
			return api.ErrClash
		}
	}
	for _, choice := range p.Hot {
		if _, hot := f.judge(choice); !hot {
			return api.ErrClash
		}
	}
	return api.OK
}
