package pass

import "cobble/api"

// ReductionsOf returns the relative reductions of all stands.
func ReductionsOf(r api.PassRules, s api.PassSchedule) ([]api.Frac, api.Errno) {
	m, e := millFor(r, s)
	if e != api.OK {
		return nil, e
	}
	return each(m, s, func(d draught) api.Frac { return lowestTerms(d.reduction(), d.before) }), api.OK
}

// LengthsOf returns the length of a strip after each stand.
func LengthsOf(r api.PassRules, s api.PassSchedule, length int) ([]api.Frac, api.Errno) {
	m, e := millFor(r, s)
	if e := firstError(e, checkWithin(1, api.MaxPassLength, length)); e != api.OK {
		return nil, e
	}
	return each(m, s, func(d draught) api.Frac { return lowestTerms(length*m.Start, d.after) }), api.OK
}

// ForcesOf returns the range of the force at each stand.
func ForcesOf(r api.PassRules, s api.PassSchedule) ([]api.Range, api.Errno) {
	m, e := millFor(r, s)
	if e != api.OK {
		return nil, e
	}
	return each(m, s, m.forces), api.OK
}

// TorquesOf returns the range of the torque at each stand.
func TorquesOf(r api.PassRules, s api.PassSchedule) ([]api.Range, api.Errno) {
	m, e := millFor(r, s)
	if e != api.OK {
		return nil, e
	}
	return each(m, s, m.torques), api.OK
}

// HeatsOf returns the span of the temperature after each stand.
func HeatsOf(r api.PassRules, s api.PassSchedule) ([]api.Span, api.Errno) {
	m, e := millFor(r, s)
	if e != api.OK {
		return nil, e
	}
	return each(m, s, func(d draught) api.Span {
		heats := m.heats(d)
		return api.Span{Lo: lowestTerms(heats.Lo, parts), Hi: lowestTerms(heats.Hi, parts)}
	}), api.OK
}

// MarginsOf returns 100 times the margin of a limit at each stand.
func MarginsOf(r api.PassRules, s api.PassSchedule, limit int) ([]api.Range, api.Errno) {
	m, e := millFor(r, s)
	if e != api.OK {
		return nil, e
	}
	if limit < 0 || limit >= api.PassLimits {
		return nil, api.ErrKind
	}
	return each(m, s, func(d draught) api.Range { return m.margins(d)[limit] }), api.OK
}

// HoldsFor returns whether a schedule holds for every material.
func HoldsFor(r api.PassRules, s api.PassSchedule) (int, api.Errno) {
	m, e := millFor(r, s)
	if e != api.OK {
		return 0, e
	}
	return m.answerFor(s), api.OK
}

// WeakestOf returns the first stand that some material may not pass, and the
// limits by which it may not.
func WeakestOf(r api.PassRules, s api.PassSchedule) (api.PassBlock, api.Errno) {
	m, e := millFor(r, s)
	if e != api.OK {
		return api.PassBlock{}, e
	}
	for d := range m.draughtsOf(s) {
		weak := api.PassBlock{Stand: d.stand}
		for _, limit := range allLimits() {
			if !m.passes(d, limit) {
				weak.Limits = append(weak.Limits, limit)
			}
		}
		if len(weak.Limits) > 0 {
			return weak, api.OK
		}
	}
	return api.PassBlock{}, api.ErrNone
}

// Rolled returns the temperature after each stand for a material, and whether it
// keeps the schedule.
func Rolled(r api.PassRules, s api.PassSchedule, m api.PassMaterial) ([]api.Frac, bool, api.Errno) {
	x, e := millFor(r, s)
	_, wrong := CheckMaterial(r, m)
	if e := firstError(e, wrong); e != api.OK {
		return nil, false, e
	}
	x = x.rolling(m)
	heats := each(x, s, func(d draught) api.Frac { return lowestTerms(x.heats(d).Lo, parts) })
	return heats, x.answerFor(s) == api.AnswerYes, api.OK
}

// EnergyOf returns the energy of a schedule.
func EnergyOf(r api.PassRules, s api.PassSchedule) (int, api.Errno) {
	m, e := millFor(r, s)
	if e != api.OK {
		return 0, e
	}
	sum := 0
	for d := range m.draughtsOf(s) {
		sum += m.energy(d)
	}
	return sum, api.OK
}
