package furnace

import (
	"iter"

	"cobble/api"
)

// enclosure is a slab at the lower ends of the ranges of its nodes, and one at
// the upper ends.
type enclosure struct{ low, high heated }

// enclosed has ranges of one temperature each.
func (h heated) enclosed() enclosure {
	return enclosure{h.copied(), h.copied()}
}

// take makes the steps of a zone, which change the nodes.
func (c enclosure) take(z api.FurnaceZone) {
	c.low.take(z.Steps, c.low.lowest(z.Set))
	c.high.take(z.Steps, c.high.highest(z.Set))
}

func (c enclosure) follow(route []api.FurnaceZone) {
	for _, z := range route {
		c.take(z)
	}
}

func (c enclosure) ranges() []api.Range {
	var l []api.Range
	for i, lo := range c.low.Nodes {
		l = append(l, api.Range{Lo: lo, Hi: c.high.Nodes[i]})
	}
	return l
}

// answerFor tells whether the ranges of all nodes lie in a target.
func (c enclosure) answerFor(target api.Range) int {
	answer := api.AnswerYes
	for _, r := range c.ranges() {
		if r.Hi < target.Lo || r.Lo > target.Hi {
			return api.AnswerNo
		}
		if r.Lo < target.Lo || r.Hi > target.Hi {
			answer = api.AnswerMaybe
		}
	}
	return answer
}

// EnclosureOf returns the range of each node after a route.
func EnclosureOf(r api.FurnaceRules, s api.FurnaceSlab, l []api.FurnaceZone) ([]api.Range, api.Errno) {
	h, e := heatedOf(r, s)
	_, wrongRoute := CheckRoute(l)
	if e := firstError(e, wrongRoute); e != api.OK {
		return nil, e
	}
	c := h.enclosed()
	c.follow(l)
	return c.ranges(), api.OK
}

func checkGoal(g api.FurnaceGoal) api.Errno {
	if _, e := CheckRoute(g.Route); e != api.OK {
		return e
	}
	if len(g.Route) == 0 {
		return api.ErrShape
	}
	return checkTarget(g.Target)
}

// answersOf yields numbers of further steps in the last zone, from 0 on, and the
// answers after them; it returns the errors of the rules, the slab and the goal.
func answersOf(r api.FurnaceRules, s api.FurnaceSlab, g api.FurnaceGoal) (iter.Seq2[int, int], api.Errno) {
	h, e := heatedOf(r, s)
	if e := firstError(e, checkGoal(g)); e != api.OK {
		return nil, e
	}
	further := api.FurnaceZone{Set: g.Route[len(g.Route)-1].Set, Steps: 1}
	return func(yield func(int, int) bool) {
		c := h.enclosed()
		c.follow(g.Route)
		for n := range api.MaxFurnaceDelay + 1 {
			if !yield(n, c.answerFor(g.Target)) {
				return
			}
			c.take(further)
		}
	}, api.OK
}

// IsReady returns whether a slab is ready after a route.
func IsReady(r api.FurnaceRules, s api.FurnaceSlab, g api.FurnaceGoal) (int, api.Errno) {
	answers, e := answersOf(r, s, g)
	if e != api.OK {
		return 0, e
	}
	ready := api.AnswerNo
	for _, answer := range answers {
		ready = answer
		break
	}
	return ready, api.OK
}

// EarliestOf returns the number of further steps after which a slab is ready first.
func EarliestOf(r api.FurnaceRules, s api.FurnaceSlab, g api.FurnaceGoal) (int, api.Errno) {
	answers, e := answersOf(r, s, g)
	if e != api.OK {
		return 0, e
	}
	for n, answer := range answers {
		if answer == api.AnswerYes {
			return n, api.OK
		}
	}
	return 0, api.ErrNone
}

// MaxDelay returns the number of further steps up to which a slab stays ready.
func MaxDelay(r api.FurnaceRules, s api.FurnaceSlab, g api.FurnaceGoal) (int, api.Errno) {
	answers, e := answersOf(r, s, g)
	if e != api.OK {
		return 0, e
	}
	longest := -1
	for n, answer := range answers {
		if answer != api.AnswerYes {
			break
		}
		longest = n
	}
	if longest < 0 {
		return 0, api.ErrRefused
	}
	return longest, api.OK
}
