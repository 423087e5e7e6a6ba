package cool

import (
	"iter"

	"cobble/api"
)

// table is a table that has no error.
type table struct{ api.CoolTable }

// tableOf returns the error of a table.
func tableOf(t api.CoolTable) (table, api.Errno) {
	if _, e := CheckTable(t); e != api.OK {
		return table{}, e
	}
	return table{t}, api.OK
}

// CheckTable returns the first error of a table, and the index of its bank.
func CheckTable(t api.CoolTable) (int, api.Errno) {
	e := firstError(
		limit(0, api.MaxCoolDegrees)(t.Water),
		limit(0, api.MaxCoolAir)(t.Air),
		checkCount(len(t.Banks), 1, api.MaxCoolBanks))
	if e != api.OK {
		return 0, e
	}
	return firstWrong(t.Banks, func(b api.CoolBank) api.Errno {
		return firstError(
			limit(0, api.CoolPart)(b.Rate.Lo, b.Rate.Hi),
			limit(0, api.MaxCoolDelay)(b.Delay),
			checkEnds(b.Rate))
	})
}

// checkDegrees returns the first error of temperature ranges.
func checkDegrees(ranges ...api.Range) api.Errno {
	_, e := firstWrong(ranges, func(r api.Range) api.Errno {
		return firstError(limit(0, api.MaxCoolDegrees)(r.Lo, r.Hi), checkEnds(r))
	})
	return e
}

// count is how many sets of banks there are.
func (t table) count() int {
	return 1 << len(t.Banks)
}

// has tells whether a bank is in a set.
func has(set, bank int) bool {
	return set>>bank&1 == 1
}

// setWith is the set of the banks of which something is true.
func (t table) setWith(is func(bank int) bool) int {
	set := 0
	for b := range t.Banks {
		if is(b) {
			set |= 1 << b
		}
	}
	return set
}

// setsWithin yields the sets that contain no other banks than a set, ascending.
func (t table) setsWithin(most int) iter.Seq[int] {
	return func(yield func(int) bool) {
		for set := range t.count() {
			if set&^most == 0 && !yield(set) {
				return
			}
		}
	}
}

// commandAt is the tick at which a command opens a bank for a segment.
func (t table) commandAt(segment, bank int) int {
	return segment + bank - t.Banks[bank].Delay
}

// available is the set of the banks that are available for a segment: a command can
// be given from the tick 0 on.
func (t table) available(segment int) int {
	return t.setWith(func(b int) bool { return t.commandAt(segment, b) >= 0 })
}

// checkSet returns the error of a set.
func (t table) checkSet(set int) api.Errno {
	return limit(0, t.count()-1)(set)
}

// checkOpen returns the first error of sets, each one for the segment with its index.
func (t table) checkOpen(sets []int) api.Errno {
	for i, set := range sets {
		if e := t.checkSet(set); e != api.OK {
			return e
		}
		if set&^t.available(i) != 0 {
			return api.ErrRefused
		}
	}
	return api.OK
}

// checkSets returns the error of sets.
func (t table) checkSets(sets []int) api.Errno {
	return firstError(checkCount(len(sets), 1, api.MaxCoolSegments), t.checkOpen(sets))
}

// passed is a temperature after the table, with one rate out of the range of each bank.
func (t table) passed(set, degrees int, one func(rate api.Range) int) int {
	for b, bank := range t.Banks {
		if has(set, b) {
			degrees -= max(degrees-t.Water, 0) * one(bank.Rate) / api.CoolPart
		}
		degrees = max(degrees-t.Air, 0)
	}
	return degrees
}

// exit is the exit range from a range of entry temperatures.
func (t table) exit(set int, entry api.Range) api.Range {
	return api.Range{
		Lo: t.passed(set, entry.Lo, func(rate api.Range) int { return rate.Hi }),
		Hi: t.passed(set, entry.Hi, func(rate api.Range) int { return rate.Lo }),
	}
}

// PassedBy returns the exit range of a set of open banks.
func PassedBy(t api.CoolTable, set int, entry api.Range) (api.Range, api.Errno) {
	x, e := tableOf(t)
	if e := firstError(e, x.checkSet(set), checkDegrees(entry)); e != api.OK {
		return api.Range{}, e
	}
	return x.exit(set, entry), api.OK
}

// AvailableAt returns the set of all banks that are available for a segment.
func AvailableAt(t api.CoolTable, segment int) (int, api.Errno) {
	x, e := tableOf(t)
	if e != api.OK {
		return 0, e
	}
	if segment < 0 || segment >= api.MaxCoolSegments {
		return 0, api.ErrMissing
	}
	return x.available(segment), api.OK
}
