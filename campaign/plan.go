package campaign

import (
	"slices"
	"strings"

	"cobble/api"
)

// layout is a yard during a plan: piles of turns, the turn that is next, and the
// work and the moves so far.
type layout struct {
	piles []string
	turn  byte
	work  int
	plan  []api.CampaignMove
}

// key is the same for layouts that differ in the order of their piles only,
// because what is left to do costs the same work in them.
func (y layout) key() string {
	piles := slices.Clone(y.piles)
	slices.Sort(piles)
	return strings.Join(piles, " ")
}

// moves yields the moves from pile to pile that are possible.
func (y layout) moves(yield func(api.CampaignMove) bool) {
	for from, pile := range y.piles {
		for to, other := range y.piles {
			if from == to || len(pile) == 0 || len(other) == api.MaxCampaignHeight {
				continue
			}
			if !yield(api.CampaignMove{From: from, To: to}) {
				return
			}
		}
	}
}

// after is the layout after a move, which shares no plan with y.
func (y layout) after(m api.CampaignMove) layout {
	pile := y.piles[m.From]
	top := len(pile) - 1
	y.piles = slices.Clone(y.piles)
	y.piles[m.From] = pile[:top]
	if m.To == api.CampaignOut {
		y.turn++
	} else {
		y.piles[m.To] += pile[top:]
		y.work++
	}
	y.plan = append(slices.Clone(y.plan), m)
	return y
}

// served is the layout after all slabs at the top whose turn it is have left: to
// leave them there never saves work.
func (y layout) served() layout {
again:
	for p, pile := range y.piles {
		if len(pile) > 0 && pile[len(pile)-1] == y.turn {
			y = y.after(api.CampaignMove{From: p, To: api.CampaignOut})
			goto again
		}
	}
	return y
}

// leastWork is a bound of the work of every plan that goes on from y: each slab
// that blocks another one has to move at least once.
func (y layout) leastWork() int {
	work := y.work
	for _, pile := range y.piles {
		for range blockingIn(pile) {
			work++
		}
	}
	return work
}

// PlanFor returns a plan with the minimum work.
func PlanFor(y [][]string, request []string) ([]api.CampaignMove, api.Errno) {
	if e := checkRequest(y, request); e != api.OK {
		return nil, e
	}
	start := layout{piles: turnsOf(y, request), turn: firstTurn}.served()
	return planFrom(start, byte(firstTurn+len(request)))
}

// planFrom looks at layouts in the order of their bounds, which never fall from
// one layout to the next, so that the first one that reaches the turn end has the
// minimum work. Bounds above MaxCampaignMoves are left out, because CheckPlan
// accepts no plan with so much work.
func planFrom(start layout, end byte) ([]api.CampaignMove, api.Errno) {
	var open [api.MaxCampaignMoves + 1][]layout
	open[start.leastWork()] = []layout{start}
	known := map[string]bool{}
	for bound := 0; bound < len(open); bound++ {
		for len(open[bound]) > 0 {
			last := len(open[bound]) - 1
			y := open[bound][last]
			open[bound] = open[bound][:last]
			if y.turn == end {
				return y.plan, api.OK
			}
			if known[y.key()] {
				continue
			}
			known[y.key()] = true
			for m := range y.moves {
				next := y.after(m).served()
				if least := next.leastWork(); least < len(open) {
					open[least] = append(open[least], next)
				}
			}
		}
	}
	return nil, api.ErrNone
}

// CheckPlan returns the work of a plan that it accepts, or an error and the index
// of its move.
func CheckPlan(y [][]string, request []string, plan []api.CampaignMove) (int, api.Errno) {
	if e := checkRequest(y, request); e != api.OK {
		return 0, e
	}
	if len(plan) > api.MaxCampaignMoves {
		return 0, api.ErrLarge
	}
	left, work := request, 0
	for i, m := range plan {
		moved, e := Moved(y, m)
		if e != api.OK {
			return i, e
		}
		if m.To != api.CampaignOut {
			work++
		} else if len(left) > 0 && left[0] == y[m.From][len(y[m.From])-1] {
			left = left[1:]
		} else {
			return i, api.ErrRefused
		}
		y = moved
	}
	if len(left) > 0 {
		return len(plan), api.ErrGap
	}
	return work, api.OK
}
