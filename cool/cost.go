package cool

import (
	"cmp"
	"math/bits"
	"slices"

	"cobble/api"
)

// checkPrices returns the error of prices.
func checkPrices(c api.CoolPrices) api.Errno {
	return limit(0, api.MaxCoolPrice)(c.Open, c.Change)
}

// prices are prices that have no error.
type prices struct{ api.CoolPrices }

// opening is what the banks of a set cost for one segment.
func (c prices) opening(set int) int {
	return c.Open * bits.OnesCount(uint(set))
}

// changing is what the banks cost that are in exactly one of two sets.
func (c prices) changing(set, next int) int {
	return c.Change * bits.OnesCount(uint(set^next))
}

// CostOf returns the cost of sets.
func CostOf(t api.CoolTable, c api.CoolPrices, sets []int) (int, api.Errno) {
	x, e := tableOf(t)
	if e := firstError(e, checkPrices(c), x.checkSets(sets)); e != api.OK {
		return 0, e
	}
	p, cost, before := prices{c}, 0, sets[0]
	for _, set := range sets {
		cost += p.opening(set) + p.changing(before, set)
		before = set
	}
	return cost, api.OK
}

// choice is prices, and the sets among which one is chosen for each segment.
type choice struct {
	prices
	sets [][]int
}

// choice is the one among the permitted sets.
func (x strip) choice(c api.CoolPrices) choice {
	l := choice{prices: prices{c}}
	for i := range x.Entries {
		l.sets = append(l.sets, x.permitted(i))
	}
	return l
}

// least is the first set for a segment whose number is the minimum, and this number.
func (c choice) least(segment int, number func(set int) int) (int, int) {
	set := slices.MinFunc(c.sets[segment], func(a, b int) int {
		return cmp.Compare(number(a), number(b))
	})
	return set, number(set)
}

// greatest is how great the number of a set may be in a bound that is accepted, by the
// numbers of the next segments.
func (c choice) greatest(segment, set int, values [][]int) int {
	if segment == len(c.sets)-1 {
		return c.opening(set)
	}
	_, rest := c.least(segment+1, func(next int) int {
		return c.changing(set, next) + values[segment+1][next]
	})
	return c.opening(set) + rest
}

// values are the greatest numbers of a bound: what sets cost at least from a segment
// on, the first one of which is given.
func (c choice) values(count int) [][]int {
	values := make([][]int, len(c.sets))
	for i := len(values) - 1; i >= 0; i-- {
		for set := range count {
			values[i] = append(values[i], c.greatest(i, set, values))
		}
	}
	return values
}

// Cheapest returns the cheapest sets, and their cost.
func Cheapest(t api.CoolTable, x api.CoolStrip, c api.CoolPrices) ([]int, int, api.Errno) {
	s, e := stripOf(t, x)
	if e := firstError(e, checkPrices(c)); e != api.OK {
		return nil, 0, e
	}
	l := s.choice(c)
	values := l.values(s.count())
	set, cost := l.least(0, func(set int) int { return values[0][set] })
	sets := []int{set}
	for i := 1; i < len(l.sets); i++ {
		before := set
		set, _ = l.least(i, func(next int) int { return l.changing(before, next) + values[i][next] })
		sets = append(sets, set)
	}
	return sets, cost, api.OK
}

// checkValues returns the error of the numbers of a bound.
func (x strip) checkValues(values [][]int) api.Errno {
	_, shape := firstWrong(values, func(l []int) api.Errno { return checkSame(x.count(), len(l)) })
	_, size := firstWrong(values, func(l []int) api.Errno {
		return limit(-api.MaxCoolValue, api.MaxCoolValue)(l...)
	})
	return firstError(checkSame(len(x.Entries), len(values)), shape, size)
}

// BoundOf returns a bound that is accepted.
func BoundOf(t api.CoolTable, x api.CoolStrip, b api.CoolBound) (int, api.Errno) {
	s, e := stripOf(t, x)
	if e := firstError(e, checkPrices(b.Prices), s.checkValues(b.Values)); e != api.OK {
		return 0, e
	}
	l := s.choice(b.Prices)
	for i, sets := range l.sets {
		for _, set := range sets {
			if b.Values[i][set] > l.greatest(i, set, b.Values) {
				return 0, api.ErrProof
			}
		}
	}
	_, bound := l.least(0, func(set int) int { return b.Values[0][set] })
	return bound, api.OK
}
