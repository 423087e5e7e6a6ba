package pass

import "cobble/api"

// CheckRules returns the first error of rules, and the index of its stand.
func CheckRules(r api.PassRules) (int, api.Errno) {
	e := firstError(
		checkWithin(1, api.MaxPassWidth, r.Width),
		checkWithin(1, api.MaxPassThickness, r.Start, r.Finish),
		checkWithin(0, api.MaxPassHeat, r.Heat.Lo, r.Heat.Hi, r.Coldest),
		checkWithin(1, api.MaxPassStress, r.Stress.Lo, r.Stress.Hi),
		checkWithin(0, api.MaxPassFriction, r.Friction.Lo, r.Friction.Hi),
		checkEnds(api.Range{Lo: r.Finish, Hi: r.Start}, r.Heat, r.Stress, r.Friction),
		checkCount(r.Stands))
	if e != api.OK {
		return 0, e
	}
	for i, s := range r.Stands {
		if e := checkStand(s); e != api.OK {
			return i, e
		}
	}
	return 0, api.OK
}

func checkCount(stands []api.PassStand) api.Errno {
	switch {
	case len(stands) == 0:
		return api.ErrShape
	case len(stands) > api.MaxPassStands:
		return api.ErrLarge
	}
	return api.OK
}

func checkStand(s api.PassStand) api.Errno {
	return firstError(
		checkWithin(1, api.MaxPassRadius, s.Radius),
		checkWithin(0, api.MaxPassLimit, s.Force, s.Torque),
		checkWithin(0, api.MaxPassLoss, s.Loss.Lo, s.Loss.Hi),
		checkEnds(s.Loss))
}

// CheckSchedule returns the first error of a schedule, and the index of its stand.
func CheckSchedule(r api.PassRules, s api.PassSchedule) (int, api.Errno) {
	if _, e := CheckRules(r); e != api.OK {
		return 0, e
	}
	switch {
	case !isName(s.Name):
		return 0, api.ErrName
	case len(s.Thicknesses) != len(r.Stands):
		return 0, api.ErrShape
	}
	before := r.Start
	for i, h := range s.Thicknesses {
		if e := checkThickness(h); e != api.OK {
			return i, e
		}
		if h > before {
			return i, api.ErrOrder
		}
		before = h
	}
	if before != r.Finish {
		return len(r.Stands) - 1, api.ErrGap
	}
	return 0, api.OK
}

func checkThickness(h int) api.Errno {
	return checkWithin(1, api.MaxPassThickness, h)
}

// CheckMaterial returns the first error of a material, and the index of its loss.
func CheckMaterial(r api.PassRules, m api.PassMaterial) (int, api.Errno) {
	if _, e := CheckRules(r); e != api.OK {
		return 0, e
	}
	e := firstError(checkIn(r.Stress, m.Stress), checkIn(r.Friction, m.Friction), checkIn(r.Heat, m.Heat))
	if e != api.OK {
		return 0, e
	}
	if len(m.Losses) != len(r.Stands) {
		return 0, api.ErrShape
	}
	for i, loss := range m.Losses {
		if e := checkIn(r.Stands[i].Loss, loss); e != api.OK {
			return i, e
		}
	}
	return 0, api.OK
}
