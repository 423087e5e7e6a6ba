package campaign

import (
	"slices"

	"cobble/api"
)

// BoundOf returns the bound of prices.
func BoundOf(r api.CampaignRules, l []api.CampaignItem, prices []int) (int, api.Errno) {
	x, e := mixOf(r, l)
	if e != api.OK {
		return 0, e
	}
	if len(prices) != len(l) {
		return 0, api.ErrShape
	}
	if !within(-api.MaxCampaignPrice, api.MaxCampaignPrice, prices...) {
		return 0, api.ErrRange
	}
	if len(l) == 1 {
		return 0, api.OK
	}
	sum := 0
	for _, price := range prices {
		sum += price
	}
	sorted := slices.Sorted(slices.Values(prices))
	greatest := sorted[len(sorted)-1] + sorted[len(sorted)-2]
	tree := leastTree(len(l), func(i, j int) int {
		return x.costBetween(i, j) - prices[i] - prices[j]
	})
	return tree + 2*sum - greatest, api.OK
}

// leastTree is the minimum sum of a tree that connects the numbers below n. It
// grows from 0, always by the cheapest pair that leads to a number outside.
func leastTree(n int, cost func(i, j int) int) int {
	inside := []int{0}
	sum := 0
	for len(inside) < n {
		nearest, least := -1, 0
		for j := range n {
			if slices.Contains(inside, j) {
				continue
			}
			for _, i := range inside {
				if c := cost(i, j); nearest < 0 || c < least {
					nearest, least = j, c
				}
			}
		}
		inside = append(inside, nearest)
		sum += least
	}
	return sum
}
