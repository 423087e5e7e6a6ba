package cool

import (
	"slices"

	"cobble/api"
)

// checkCommands returns the first error of the commands of one bank.
func checkCommands(l []api.Range) api.Errno {
	next := 0
	_, wrong := firstWrong(l, func(r api.Range) api.Errno {
		e := firstError(limit(0, api.MaxCoolTick)(r.Lo, r.Hi), checkEnds(r))
		if e == api.OK && r.Lo < next {
			return api.ErrOrder
		}
		// A tick without a command lies between two ranges.
		next = r.Hi + 2
		return e
	})
	return firstError(checkCount(len(l), 0, api.MaxCoolCommands), wrong)
}

// CheckPlan returns the first error of a plan for a table, and the index of the bank
// whose commands are wrong. The table is an argument, so its error has no index here.
func CheckPlan(t api.CoolTable, p api.CoolPlan) (int, api.Errno) {
	x, e := tableOf(t)
	if e := firstError(e, checkSame(len(x.Banks), len(p.Commands))); e != api.OK {
		return 0, e
	}
	return firstWrong(p.Commands, checkCommands)
}

// commanded tells whether a range contains a tick.
func commanded(l []api.Range, tick int) bool {
	return slices.ContainsFunc(l, func(r api.Range) bool { return r.Lo <= tick && tick <= r.Hi })
}

// SetsOf returns the sets that a plan opens for the first segments.
func SetsOf(t api.CoolTable, p api.CoolPlan, count int) ([]int, api.Errno) {
	_, e := CheckPlan(t, p)
	if e := firstError(e, limit(1, api.MaxCoolSegments)(count)); e != api.OK {
		return nil, e
	}
	x := table{t}
	var sets []int
	for i := range count {
		sets = append(sets, x.setWith(func(b int) bool {
			return commanded(p.Commands[b], x.commandAt(i, b))
		}))
	}
	return sets, api.OK
}

// PlanOf returns the plan that opens sets, and has no tick beside those.
func PlanOf(t api.CoolTable, sets []int) (api.CoolPlan, api.Errno) {
	x, e := tableOf(t)
	if e := firstError(e, x.checkSets(sets)); e != api.OK {
		return api.CoolPlan{}, e
	}
	var p api.CoolPlan
	for b := range t.Banks {
		var l []api.Range
		for i, set := range sets {
			if has(set, b) {
				l = withTick(l, x.commandAt(i, b))
			}
		}
		p.Commands = append(p.Commands, l)
	}
	return p, api.OK
}

// withTick is commands and a later tick, which may belong to their last range.
func withTick(l []api.Range, tick int) []api.Range {
	if last := len(l) - 1; last >= 0 && l[last].Hi == tick-1 {
		l[last].Hi = tick
		return l
	}
	return append(l, api.Range{Lo: tick, Hi: tick})
}
