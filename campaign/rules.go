package campaign

import (
	"slices"

	"cobble/api"
)

// CheckRules returns the error of rules.
func CheckRules(r api.CampaignRules) api.Errno {
	if !within(0, api.MaxCampaignItems, r.Opening) ||
		!within(0, api.MaxCampaignThickness, r.WidthUp, r.WidthDown, r.ThicknessJump) ||
		!within(0, api.MaxCampaignGrade, r.HardnessJump) ||
		!within(0, api.MaxCampaignItems*api.MaxCampaignMetres, r.Metres) ||
		!within(0, api.MaxCampaignPrice, r.WidthPrice, r.ThicknessPrice, r.HardnessPrice) {
		return api.ErrRange
	}
	return api.OK
}

func checkItems(l []api.CampaignItem) api.Errno {
	switch {
	case len(l) == 0:
		return api.ErrShape
	case len(l) > api.MaxCampaignItems:
		return api.ErrLarge
	}
	for _, x := range l {
		if !within(api.MinCampaignWidth, api.MaxCampaignWidth, x.Width) ||
			!within(1, api.MaxCampaignThickness, x.Thickness) ||
			!within(1, api.MaxCampaignGrade, x.Hardness) ||
			!within(1, api.MaxCampaignMetres, x.Metres) {
			return api.ErrRange
		}
	}
	return api.OK
}

// mix is items, and the rules for them.
type mix struct {
	api.CampaignRules
	items []api.CampaignItem
}

// mixOf returns the errors of the rules and the items.
func mixOf(r api.CampaignRules, l []api.CampaignItem) (mix, api.Errno) {
	if e := firstError(CheckRules(r), checkItems(l)); e != api.OK {
		return mix{}, e
	}
	return mix{r, l}, api.OK
}

// mixFor returns the errors of the rules, the items and a sequence.
func mixFor(r api.CampaignRules, l []api.CampaignItem, sequence []int) (mix, api.Errno) {
	x, e := mixOf(r, l)
	if e != api.OK {
		return mix{}, e
	}
	for p, i := range sequence {
		if !within(0, len(l)-1, i) {
			return mix{}, api.ErrMissing
		}
		if slices.Contains(sequence[:p], i) {
			return mix{}, api.ErrDouble
		}
	}
	return x, api.OK
}

// violatedAt tells for each rule whether a sequence violates it at a position.
func (x mix) violatedAt(sequence []int, p int) [api.CampaignRuleKinds]bool {
	var violated [api.CampaignRuleKinds]bool
	metres := 0
	for _, i := range sequence[:p+1] {
		metres += x.items[i].Metres
	}
	violated[api.CampaignMetres] = metres > x.Metres
	if p == 0 {
		return violated
	}
	before, at := x.items[sequence[p-1]], x.items[sequence[p]]
	growth := at.Width - before.Width
	violated[api.CampaignCoffin] = p < x.Opening && growth < 0 || p >= x.Opening && growth > 0
	violated[api.CampaignWidth] = growth > x.WidthUp || -growth > x.WidthDown
	violated[api.CampaignThickness] = sizeOf(at.Thickness-before.Thickness) > x.ThicknessJump
	violated[api.CampaignHardness] = sizeOf(at.Hardness-before.Hardness) > x.HardnessJump
	return violated
}

// violationFrom returns the first violation from a position on, and whether there
// is one.
func (x mix) violationFrom(sequence []int, from int) (api.CampaignViolation, bool) {
	for p := from; p < len(sequence); p++ {
		violated := x.violatedAt(sequence, p)
		if rule := slices.Index(violated[:], true); rule >= 0 {
			return api.CampaignViolation{Position: p, Rule: rule}, true
		}
	}
	return api.CampaignViolation{}, false
}

// costBetween is the cost of two items.
func (x mix) costBetween(i, j int) int {
	a, b := x.items[i], x.items[j]
	return x.WidthPrice*sizeOf(a.Width-b.Width) +
		x.ThicknessPrice*sizeOf(a.Thickness-b.Thickness) +
		x.HardnessPrice*sizeOf(a.Hardness-b.Hardness)
}

func (x mix) costOf(sequence []int) int {
	cost := 0
	for p := 1; p < len(sequence); p++ {
		cost += x.costBetween(sequence[p-1], sequence[p])
	}
	return cost
}

// ViolationOf returns the first violation of a sequence.
func ViolationOf(r api.CampaignRules, l []api.CampaignItem, sequence []int) (api.CampaignViolation, api.Errno) {
	x, e := mixFor(r, l, sequence)
	if e != api.OK {
		return api.CampaignViolation{}, e
	}
	v, violated := x.violationFrom(sequence, 0)
	if !violated {
		return api.CampaignViolation{}, api.ErrNone
	}
	return v, api.OK
}

// CostOf returns the cost of a sequence.
func CostOf(r api.CampaignRules, l []api.CampaignItem, sequence []int) (int, api.Errno) {
	x, e := mixFor(r, l, sequence)
	if e != api.OK {
		return 0, e
	}
	return x.costOf(sequence), api.OK
}
