package campaign

import (
	"iter"
	"slices"

	"cobble/api"
)

// CheckYard returns the first error of a yard, and its pile.
func CheckYard(y [][]string) (int, api.Errno) {
	switch {
	case len(y) == 0:
		return 0, api.ErrShape
	case len(y) > api.MaxCampaignPiles:
		return 0, api.ErrLarge
	}
	seen := map[string]bool{}
	for p, pile := range y {
		if e := checkPile(pile, seen); e != api.OK {
			return p, e
		}
	}
	if len(seen) > api.MaxCampaignSlabs {
		return 0, api.ErrLarge
	}
	return 0, api.OK
}

// checkPile adds the names of a pile to those that are seen.
func checkPile(pile []string, seen map[string]bool) api.Errno {
	if len(pile) > api.MaxCampaignHeight {
		return api.ErrLarge
	}
	for _, name := range pile {
		if !isName(name) {
			return api.ErrName
		}
		if seen[name] {
			return api.ErrExists
		}
		seen[name] = true
	}
	return api.OK
}

// Moved returns a yard after a move.
func Moved(y [][]string, m api.CampaignMove) ([][]string, api.Errno) {
	if _, e := CheckYard(y); e != api.OK {
		return nil, e
	}
	if e := checkMove(y, m); e != api.OK {
		return nil, e
	}
	moved := make([][]string, len(y))
	for p, pile := range y {
		moved[p] = slices.Clone(pile)
	}
	top := len(y[m.From]) - 1
	moved[m.From] = moved[m.From][:top]
	if m.To != api.CampaignOut {
		moved[m.To] = append(moved[m.To], y[m.From][top])
	}
	return moved, api.OK
}

func checkMove(y [][]string, m api.CampaignMove) api.Errno {
	last := len(y) - 1
	switch {
	case !within(0, last, m.From), m.To != api.CampaignOut && !within(0, last, m.To):
		return api.ErrMissing
	case len(y[m.From]) == 0:
		return api.ErrZero
	case m.From == m.To:
		return api.ErrForm
	case m.To != api.CampaignOut && len(y[m.To]) == api.MaxCampaignHeight:
		return api.ErrFull
	}
	return api.OK
}

// checkRequest returns the error of a yard, and then that of a request.
func checkRequest(y [][]string, request []string) api.Errno {
	if _, e := CheckYard(y); e != api.OK {
		return e
	}
	inYard := func(name string) bool {
		return slices.ContainsFunc(y, func(pile []string) bool { return slices.Contains(pile, name) })
	}
	for i, name := range request {
		if !inYard(name) {
			return api.ErrMissing
		}
		if slices.Contains(request[:i], name) {
			return api.ErrDouble
		}
	}
	return api.OK
}

// The turns of slabs: that of the first name of a request, and that of slabs
// that are not requested.
const (
	firstTurn = 'a'
	noTurn    = 'z'
)

// turnsOf writes each pile as a string, which has for each slab, from the bottom
// to the top, the turn at which it leaves the yard.
func turnsOf(y [][]string, request []string) []string {
	piles := make([]string, len(y))
	for p, pile := range y {
		turns := make([]byte, len(pile))
		for i, name := range pile {
			turns[i] = noTurn
			if at := slices.Index(request, name); at >= 0 {
				turns[i] = byte(firstTurn + at)
			}
		}
		piles[p] = string(turns)
	}
	return piles
}

// blockingIn yields where in a pile of turns there are slabs that lie above one
// with an earlier turn.
func blockingIn(pile string) iter.Seq[int] {
	return func(yield func(int) bool) {
		earliest := byte(noTurn)
		for at := range len(pile) {
			if earliest < pile[at] && !yield(at) {
				return
			}
			earliest = min(earliest, pile[at])
		}
	}
}

// BlockedBy returns the names of all slabs that block a requested one.
func BlockedBy(y [][]string, request []string) ([]string, api.Errno) {
	if e := checkRequest(y, request); e != api.OK {
		return nil, e
	}
	var names []string
	for p, pile := range turnsOf(y, request) {
		for at := range blockingIn(pile) {
			names = append(names, y[p][at])
		}
	}
	return names, api.OK
}
