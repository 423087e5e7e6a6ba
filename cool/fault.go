package cool

import (
	"iter"

	"cobble/api"
)

// kinds are both kinds of faults, in their order: always closed, and always open.
var kinds = [2]bool{false, true}

// checkFaults returns the error of faults.
func (t table) checkFaults(faults []api.CoolFault) api.Errno {
	concerned := 0
	_, wrong := firstWrong(faults, func(f api.CoolFault) api.Errno {
		switch {
		case f.Bank < 0 || f.Bank >= len(t.Banks):
			return api.ErrMissing
		case has(concerned, f.Bank):
			return api.ErrDouble
		}
		concerned |= 1 << f.Bank
		return api.OK
	})
	return firstError(checkCount(len(faults), 0, api.MaxCoolBanks), wrong)
}

// withFaults is a set with faults.
func withFaults(set int, faults []api.CoolFault) int {
	for _, f := range faults {
		set &^= 1 << f.Bank
		if f.Open {
			set |= 1 << f.Bank
		}
	}
	return set
}

// WithFaults returns sets with faults.
func WithFaults(t api.CoolTable, sets []int, faults []api.CoolFault) ([]int, api.Errno) {
	x, e := tableOf(t)
	_, wrong := firstWrong(sets, x.checkSet)
	e = firstError(e, checkCount(len(sets), 1, api.MaxCoolSegments), wrong, x.checkFaults(faults))
	if e != api.OK {
		return nil, e
	}
	var l []int
	for _, set := range sets {
		l = append(l, withFaults(set, faults))
	}
	return l, api.OK
}

// faults yields the sets of so many faults of the banks from least on, in their order.
// A set that is yielded is the receiver's own.
func (t table) faults(count, least int) iter.Seq[[]api.CoolFault] {
	return func(yield func([]api.CoolFault) bool) {
		if count == 0 {
			yield(nil)
			return
		}
		for b := least; b < len(t.Banks); b++ {
			for _, open := range kinds {
				for others := range t.faults(count-1, b+1) {
					if !yield(append([]api.CoolFault{{Bank: b, Open: open}}, others...)) {
						return
					}
				}
			}
		}
	}
}

// checkMeasured returns the error of what was commanded and measured.
func (x strip) checkMeasured(m api.CoolMeasured) api.Errno {
	_, wrong := firstWrong(m.Sets, x.checkSet)
	return firstError(
		checkSame(len(x.Entries), len(m.Sets), len(m.Exits)),
		wrong,
		checkDegrees(m.Exits...))
}

// explains tells whether faults explain what was measured.
func (x strip) explains(m api.CoolMeasured, faults []api.CoolFault) bool {
	for i, set := range m.Sets {
		if !meet(x.exitOf(i, withFaults(set, faults)), m.Exits[i]) {
			return false
		}
	}
	return true
}

// FaultsIn returns all sets of faults of the minimum size that explain what was
// measured.
func FaultsIn(t api.CoolTable, x api.CoolStrip, m api.CoolMeasured) ([][]api.CoolFault, api.Errno) {
	s, e := stripOf(t, x)
	if e := firstError(e, s.checkMeasured(m)); e != api.OK {
		return nil, e
	}
	for count := range len(t.Banks) + 1 {
		var l [][]api.CoolFault
		for faults := range s.faults(count, 0) {
			if s.explains(m, faults) {
				l = append(l, faults)
			}
		}
		if len(l) > 0 {
			return l, api.OK
		}
	}
	return nil, api.ErrNone
}
