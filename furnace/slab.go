package furnace

import (
	"slices"

	"cobble/api"
)

// mixParts is the number of parts in which the conduction is given.
const mixParts = 100

// CheckRules returns the error of rules.
func CheckRules(r api.FurnaceRules) api.Errno {
	_, e := CheckTable(r.Table)
	return firstError(e,
		limit(0, api.FurnaceMix)(r.Mix),
		checkParts(r.Emissivity.Lo, r.Emissivity.Hi),
		checkEnds(r.Emissivity))
}

// CheckSlab returns the error of a slab.
func CheckSlab(s api.FurnaceSlab) api.Errno {
	switch {
	case len(s.Nodes) < 2:
		return api.ErrShape
	case len(s.Nodes) > api.MaxFurnaceNodes:
		return api.ErrLarge
	}
	return firstError(checkTemperatures(s.Nodes...), checkParts(s.Bottom))
}

// heated is a slab, and the rules by which it is heated. Its nodes are its own.
type heated struct {
	api.FurnaceRules
	api.FurnaceSlab
}

// heatedOf returns the errors of the rules and the slab.
func heatedOf(r api.FurnaceRules, s api.FurnaceSlab) (heated, api.Errno) {
	if e := firstError(CheckRules(r), CheckSlab(s)); e != api.OK {
		return heated{}, e
	}
	return heated{r, s}.copied(), api.OK
}

func (h heated) copied() heated {
	h.Nodes = slices.Clone(h.Nodes)
	return h
}

// heat is what a furnace does in a step to a temperature at a side of a slab, if
// a share of the heat (thousandths) reaches it.
type heat func(temperature, share int) int

func (h heated) heatBy(emissivity, set int) heat {
	radiance := radianceIn(h.Table, set)
	return func(temperature, share int) int {
		gain := emissivity * (radiance - radianceIn(h.Table, temperature))
		return temperature + quotient(gain*share, api.FurnaceParts*api.FurnaceParts)
	}
}

// highest is the heat that is the higher one of those by both ends of the range
// of the emissivity.
func (h heated) highest(set int) heat {
	lo, hi := h.heatBy(h.Emissivity.Lo, set), h.heatBy(h.Emissivity.Hi, set)
	return func(temperature, share int) int {
		return max(lo(temperature, share), hi(temperature, share))
	}
}

// lowest is the lower one of them: the end of the range that heats most cools most,
// too, so that neither end gives the lower temperature always.
func (h heated) lowest(set int) heat {
	lo, hi := h.heatBy(h.Emissivity.Lo, set), h.heatBy(h.Emissivity.Hi, set)
	return func(temperature, share int) int {
		return min(lo(temperature, share), hi(temperature, share))
	}
}

// take makes steps, which change the nodes.
func (h heated) take(steps int, by heat) {
	lower, upper := 0, len(h.Nodes)-1
	for range steps {
		h.Nodes[lower] = by(h.Nodes[lower], h.Bottom)
		h.Nodes[upper] = by(h.Nodes[upper], api.FurnaceParts)
		h.conduct()
	}
}

// conduct changes all nodes at once: what a node was stays known in below until
// the node above it has changed.
func (h heated) conduct() {
	below := h.Nodes[0]
	for i, node := range h.Nodes {
		above := h.Nodes[min(i+1, len(h.Nodes)-1)]
		h.Nodes[i] = (h.Mix*(below+above) + (mixParts-2*h.Mix)*node) / mixParts
		below = node
	}
}

func (h heated) sum() int {
	n := 0
	for _, node := range h.Nodes {
		n += node
	}
	return n
}

// MeanOf returns the mean temperature of a slab.
func MeanOf(s api.FurnaceSlab) (api.Frac, api.Errno) {
	if e := CheckSlab(s); e != api.OK {
		return api.Frac{}, e
	}
	h := heated{FurnaceSlab: s}
	return lowestTerms(h.sum(), len(s.Nodes)), api.OK
}

// lowestTerms is a fraction; num is at least 0, and den above 0.
func lowestTerms(num, den int) api.Frac {
	a, b := num, den
	for b > 0 {
		a, b = b, a%b
	}
	return api.Frac{Num: num / a, Den: den / a}
}

// Heated returns a slab after a step.
func Heated(r api.FurnaceRules, s api.FurnaceSlab, x api.FurnaceStep) (api.FurnaceSlab, api.Errno) {
	h, e := heatedOf(r, s)
	if e := firstError(e, checkParts(x.Emissivity), checkTemperatures(x.Set)); e != api.OK {
		return api.FurnaceSlab{}, e
	}
	h.take(1, h.heatBy(x.Emissivity, x.Set))
	return h.FurnaceSlab, api.OK
}
