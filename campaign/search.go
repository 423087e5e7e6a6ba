package campaign

import (
	"iter"
	"slices"

	"cobble/api"
)

// campaignsOf yields, in lexicographic order, the sequences of all items of a set
// that hold. What is yielded is not kept by it.
func (x mix) campaignsOf(set []int) iter.Seq[[]int] {
	return func(yield func([]int) bool) {
		x.extend(nil, set, yield)
	}
}

// extend yields the sequences that begin with begun, which holds, and go on with
// the items that are left; it returns whether more of them are wanted.
func (x mix) extend(begun, left []int, yield func([]int) bool) bool {
	if len(left) == 0 {
		return yield(begun)
	}
	for i, item := range left {
		longer := append(slices.Clone(begun), item)
		// No sequence holds that begins with one that does not.
		if _, violated := x.violationFrom(longer, len(begun)); violated {
			continue
		}
		if !x.extend(longer, slices.Delete(slices.Clone(left), i, i+1), yield) {
			return false
		}
	}
	return true
}

// hasCampaign tells whether a sequence of all items of a set holds.
func (x mix) hasCampaign(set []int) bool {
	for range x.campaignsOf(set) {
		return true
	}
	return false
}

// setsOf yields the sets of numbers below n that are not empty: the smaller ones
// first, and those of one size in lexicographic order.
func setsOf(n int) iter.Seq[[]int] {
	return func(yield func([]int) bool) {
		for size := 1; size <= n; size++ {
			if !choose(nil, size, n, yield) {
				return
			}
		}
	}
}

// choose yields the sets that consist of begun and as many greater numbers below
// n as are missing; it returns whether more of them are wanted.
func choose(begun []int, missing, n int, yield func([]int) bool) bool {
	if missing == 0 {
		return yield(begun)
	}
	first := 0
	if len(begun) > 0 {
		first = begun[len(begun)-1] + 1
	}
	for i := first; i < n; i++ {
		if !choose(append(slices.Clone(begun), i), missing-1, n, yield) {
			return false
		}
	}
	return true
}

// all is the set of all items.
func (x mix) all() []int {
	var set []int
	for i := range x.items {
		set = append(set, i)
	}
	return set
}

// Cheapest returns the cheapest campaign, and its cost.
func Cheapest(r api.CampaignRules, l []api.CampaignItem) ([]int, int, api.Errno) {
	x, e := mixOf(r, l)
	if e != api.OK {
		return nil, 0, e
	}
	var best []int
	least := 0
	for sequence := range x.campaignsOf(x.all()) {
		if cost := x.costOf(sequence); best == nil || cost < least {
			best, least = slices.Clone(sequence), cost
		}
	}
	if best == nil {
		return nil, 0, api.ErrNone
	}
	return best, least, api.OK
}

// InsertedAt returns the position at which the last item is inserted into a
// sequence with the minimum cost.
func InsertedAt(r api.CampaignRules, l []api.CampaignItem, sequence []int) (int, api.Errno) {
	x, e := mixFor(r, l, sequence)
	if e != api.OK {
		return 0, e
	}
	last := len(l) - 1
	if slices.Contains(sequence, last) {
		return 0, api.ErrDouble
	}
	best, least := -1, 0
	for p := range len(sequence) + 1 {
		longer := slices.Insert(slices.Clone(sequence), p, last)
		if _, violated := x.violationFrom(longer, 0); violated {
			continue
		}
		if cost := x.costOf(longer); best < 0 || cost < least {
			best, least = p, cost
		}
	}
	if best < 0 {
		return 0, api.ErrNone
	}
	return best, api.OK
}

// Contradicting returns the minimum set of items that has no campaign.
func Contradicting(r api.CampaignRules, l []api.CampaignItem) ([]int, api.Errno) {
	x, e := mixOf(r, l)
	if e != api.OK {
		return nil, e
	}
	for set := range setsOf(len(l)) {
		if !x.hasCampaign(set) {
			return slices.Clone(set), api.OK
		}
	}
	return nil, api.ErrNone
}
