package campaign_test

import (
	"math/rand"
	"slices"
	"strconv"
	"strings"
	"testing"

	"cobble/api"
	"cobble/campaign"
)

// The values of the chapter's examples; tests change their own copies of them.

func exampleOrder() api.CampaignOrder {
	return api.CampaignOrder{Name: "a-1", Grade: 5, Thickness: 3000, Tolerance: 50, Width: 1200, Coiling: api.Range{Lo: 0, Hi: 20000}, Due: 12}
}

func exampleSlab() api.CampaignSlab {
	return api.CampaignSlab{Name: "s", Grade: 5, Thickness: 200000, Width: 1250, Length: 8000}
}

func exampleYard() [][]string {
	return [][]string{{"a", "b", "c"}, {"d"}, nil}
}

func exampleRules() api.CampaignRules {
	return api.CampaignRules{Opening: 2, WidthUp: 100, WidthDown: 150, ThicknessJump: 1000, HardnessJump: 2, Metres: 5000, WidthPrice: 1, HardnessPrice: 10}
}

func exampleItems() []api.CampaignItem {
	return []api.CampaignItem{
		{Width: 1200, Thickness: 3000, Hardness: 5, Metres: 1000},
		{Width: 1100, Thickness: 2500, Hardness: 4, Metres: 1000},
		{Width: 1050, Thickness: 3400, Hardness: 6, Metres: 2000},
	}
}

// wideRules permit everything but too many metres.
func wideRules() api.CampaignRules {
	return api.CampaignRules{Opening: 0, WidthUp: 300000, WidthDown: 300000, ThicknessJump: 300000, HardnessJump: 99, Metres: 70000, WidthPrice: 1, ThicknessPrice: 1, HardnessPrice: 1}
}

func item(width, thickness, hardness, metres int) api.CampaignItem {
	return api.CampaignItem{Width: width, Thickness: thickness, Hardness: hardness, Metres: metres}
}

func move(from, to int) api.CampaignMove {
	return api.CampaignMove{From: from, To: to}
}

func out(from int) api.CampaignMove {
	return move(from, api.CampaignOut)
}

func size(n int) int {
	if n < 0 {
		return -n
	}
	return n
}

func names(prefix string, n int) []string {
	var l []string
	for i := range n {
		l = append(l, prefix+strconv.Itoa(i))
	}
	return l
}

func alikeYards(a, b [][]string) bool {
	return slices.EqualFunc(a, b, func(p, q []string) bool { return slices.Equal(p, q) })
}

func copyYard(y [][]string) [][]string {
	var l [][]string
	for _, pile := range y {
		l = append(l, slices.Clone(pile))
	}
	return l
}

// randomYard has some slabs in some piles, and a request for some of them.
func randomYard(rnd *rand.Rand, piles, slabs int) ([][]string, []string) {
	y := make([][]string, piles)
	all := names("s", slabs)
	rnd.Shuffle(len(all), func(i, j int) { all[i], all[j] = all[j], all[i] })
	var laid []string
	for _, name := range all {
		if p := rnd.Intn(piles); len(y[p]) < api.MaxCampaignHeight {
			y[p] = append(y[p], name)
			laid = append(laid, name)
		}
	}
	rnd.Shuffle(len(laid), func(i, j int) { laid[i], laid[j] = laid[j], laid[i] })
	return y, laid[:rnd.Intn(len(laid)+1)]
}

// leastWorkByTrying is the minimum work of a plan, found by trying all moves, or
// -1 if there is no plan.
func leastWorkByTrying(t *testing.T, y [][]string, request []string) int {
	type state struct {
		yard [][]string
		left []string
	}
	key := func(s state) string {
		var piles []string
		for _, pile := range s.yard {
			piles = append(piles, strings.Join(pile, " "))
		}
		return strings.Join(piles, "/") + "/" + strconv.Itoa(len(s.left))
	}
	known := map[string]bool{}
	level := []state{{y, request}}
	for work := 0; len(level) > 0; work++ {
		var next []state
		for len(level) > 0 {
			s := level[len(level)-1]
			level = level[:len(level)-1]
			if len(s.left) == 0 {
				return work
			}
			if known[key(s)] {
				continue
			}
			known[key(s)] = true
			for from, pile := range s.yard {
				for to := api.CampaignOut; to < len(s.yard); to++ {
					if to == api.CampaignOut && (len(pile) == 0 || pile[len(pile)-1] != s.left[0]) {
						continue
					}
					moved, e := campaign.Moved(s.yard, move(from, to))
					if e != api.OK {
						continue
					}
					if to == api.CampaignOut {
						level = append(level, state{moved, s.left[1:]})
					} else {
						next = append(next, state{moved, s.left})
					}
				}
			}
		}
		level = next
	}
	return -1
}

// permutationsOf are all sequences of the numbers of a set, which is ascending, in
// lexicographic order.
func permutationsOf(set []int) [][]int {
	if len(set) == 0 {
		return [][]int{nil}
	}
	var l [][]int
	for i, first := range set {
		rest := slices.Concat(set[:i], set[i+1:])
		for _, p := range permutationsOf(rest) {
			l = append(l, append([]int{first}, p...))
		}
	}
	return l
}

func firstNumbers(n int) []int {
	var l []int
	for i := range n {
		l = append(l, i)
	}
	return l
}

// setsBySize are all sets of the numbers below n, the smallest ones first, those
// of one size in lexicographic order.
func setsBySize(n int) [][]int {
	var l [][]int
	for mask := range 1 << n {
		var set []int
		for i := range n {
			if mask>>i&1 == 1 {
				set = append(set, i)
			}
		}
		l = append(l, set)
	}
	slices.SortFunc(l, func(a, b []int) int {
		if len(a) != len(b) {
			return len(a) - len(b)
		}
		return slices.Compare(a, b)
	})
	return l
}

// violationByTable follows the table of the chapter, row by row.
func violationByTable(r api.CampaignRules, l []api.CampaignItem, sequence []int) (api.CampaignViolation, bool) {
	for p := range sequence {
		sum := 0
		for q := 0; q <= p; q++ {
			sum += l[sequence[q]].Metres
		}
		if sum > r.Metres {
			return api.CampaignViolation{Position: p, Rule: api.CampaignMetres}, true
		}
		if p == 0 {
			continue
		}
		x, y := l[sequence[p]], l[sequence[p-1]]
		inOpening := p >= 1 && p <= r.Opening-1
		after := p >= max(r.Opening, 1)
		if inOpening && x.Width < y.Width || after && x.Width > y.Width {
			return api.CampaignViolation{Position: p, Rule: api.CampaignCoffin}, true
		}
		if x.Width > y.Width && x.Width-y.Width > r.WidthUp || x.Width < y.Width && y.Width-x.Width > r.WidthDown {
			return api.CampaignViolation{Position: p, Rule: api.CampaignWidth}, true
		}
		if size(x.Thickness-y.Thickness) > r.ThicknessJump {
			return api.CampaignViolation{Position: p, Rule: api.CampaignThickness}, true
		}
		if size(x.Hardness-y.Hardness) > r.HardnessJump {
			return api.CampaignViolation{Position: p, Rule: api.CampaignHardness}, true
		}
	}
	return api.CampaignViolation{}, false
}

func holdsByTable(r api.CampaignRules, l []api.CampaignItem, sequence []int) bool {
	_, violated := violationByTable(r, l, sequence)
	return !violated
}

func pairCost(r api.CampaignRules, x, y api.CampaignItem) int {
	return r.WidthPrice*size(x.Width-y.Width) + r.ThicknessPrice*size(x.Thickness-y.Thickness) + r.HardnessPrice*size(x.Hardness-y.Hardness)
}

func sequenceCost(r api.CampaignRules, l []api.CampaignItem, sequence []int) int {
	cost := 0
	for p := 1; p < len(sequence); p++ {
		cost += pairCost(r, l[sequence[p-1]], l[sequence[p]])
	}
	return cost
}

// hasCampaignByTrying tells whether a sequence of exactly the items of a set holds.
func hasCampaignByTrying(r api.CampaignRules, l []api.CampaignItem, set []int) bool {
	return slices.ContainsFunc(permutationsOf(set), func(s []int) bool { return holdsByTable(r, l, s) })
}

// boundByTrying looks at all sets of one pair fewer than there are items, and
// takes those that connect the items.
func boundByTrying(r api.CampaignRules, l []api.CampaignItem, prices []int) int {
	n := len(l)
	if n == 1 {
		return 0
	}
	var pairs [][2]int
	for i := range n {
		for j := i + 1; j < n; j++ {
			pairs = append(pairs, [2]int{i, j})
		}
	}
	least, found := 0, false
	for _, set := range setsBySize(len(pairs)) {
		if len(set) != n-1 {
			continue
		}
		group := firstNumbers(n)
		sum := 0
		for _, k := range set {
			i, j := pairs[k][0], pairs[k][1]
			sum += pairCost(r, l[i], l[j]) - prices[i] - prices[j]
			old, now := group[i], group[j]
			for q := range group {
				if group[q] == old {
					group[q] = now
				}
			}
		}
		if slices.Min(group) == slices.Max(group) && (!found || sum < least) {
			least, found = sum, true
		}
	}
	total := 0
	for _, p := range prices {
		total += p
	}
	sorted := slices.Clone(prices)
	slices.Sort(sorted)
	return least + 2*total - sorted[n-1] - sorted[n-2]
}

// randomMix has rules that are often violated, and items that are often equal in
// some respect.
func randomMix(rnd *rand.Rand, n int) (api.CampaignRules, []api.CampaignItem) {
	r := api.CampaignRules{
		Opening: rnd.Intn(n + 1), WidthUp: 50 * rnd.Intn(5), WidthDown: 50 * rnd.Intn(6),
		ThicknessJump: 500 * rnd.Intn(5), HardnessJump: rnd.Intn(5), Metres: 500 * (n + rnd.Intn(3*n)),
		WidthPrice: rnd.Intn(3), ThicknessPrice: rnd.Intn(2), HardnessPrice: 10 * rnd.Intn(4),
	}
	var l []api.CampaignItem
	for range n {
		l = append(l, item(1000+50*rnd.Intn(5), 2000+500*rnd.Intn(4), 3+rnd.Intn(4), 500*(1+rnd.Intn(3))))
	}
	return r, l
}

func randomPrices(rnd *rand.Rand, n, most int) []int {
	var l []int
	for range n {
		l = append(l, rnd.Intn(2*most+1)-most)
	}
	return l
}
