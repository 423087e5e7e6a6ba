package model

import "cobble/api"

// CheckRules returns the first error of rules, and the index of its knot.
func CheckRules(r api.ModelRules) (int, api.Errno) {
	if i, e := CheckTable(r.Table); e != api.OK {
		return i, e
	}
	return 0, firstError(
		checkForm(r.Lowest, r.Step),
		limit(1, api.MaxModelGain)(r.Lowest.Num, r.Lowest.Den, r.Step.Num, r.Step.Den),
		limit(0, api.MaxModelGain)(r.Steps))
}

// grade is rules that have no error.
type grade struct{ api.ModelRules }

// gradeFor returns the errors of the rules and a correction.
func gradeFor(r api.ModelRules, c api.ModelCorrection) (grade, api.Errno) {
	_, e := CheckRules(r)
	if e := firstError(e, limit(0, api.MaxModelVersion)(c.Version), limit(0, r.Steps)(c.At)); e != api.OK {
		return grade{}, e
	}
	return grade{r}, api.OK
}

// gainAt is the gain at a step. It is not in lowest terms, but has the same Den at
// all steps.
func (g grade) gainAt(step int) api.Frac {
	return api.Frac{
		Num: g.Lowest.Num*g.Step.Den + step*g.Step.Num*g.Lowest.Den,
		Den: g.Lowest.Den * g.Step.Den,
	}
}

// GainOf returns the gain of a correction.
func GainOf(r api.ModelRules, c api.ModelCorrection) (api.Frac, api.Errno) {
	g, e := gradeFor(r, c)
	if e != api.OK {
		return api.Frac{}, e
	}
	gain := g.gainAt(c.At)
	return lowestTerms(gain.Num, gain.Den), api.OK
}

// ForceAt returns the force at a temperature.
func ForceAt(r api.ModelRules, c api.ModelCorrection, x int) (api.Frac, api.Errno) {
	g, e := gradeFor(r, c)
	if e := firstError(e, checkTemperatures(x)); e != api.OK {
		return api.Frac{}, e
	}
	force := g.gainAt(c.At)
	force.Num *= valueIn(g.Table, x)
	return smallEnough(force)
}

// CheckCoil returns the first error of a coil, and the index of its reading.
func CheckCoil(r api.ModelRules, c api.ModelCoil) (int, api.Errno) {
	if _, e := CheckRules(r); e != api.OK {
		return 0, e
	}
	return checkCoil(c)
}

// checkCoil is CheckCoil without the rules.
func checkCoil(c api.ModelCoil) (int, api.Errno) {
	if e := firstError(checkName(c.Name), checkCount(len(c.Readings), api.MaxModelReadings)); e != api.OK {
		return 0, e
	}
	for i, x := range c.Readings {
		if e := firstError(checkTemperatures(x.X), limit(0, api.MaxModelValue)(x.Force)); e != api.OK {
			return i, e
		}
	}
	return 0, api.OK
}

func checkCoils(coils []api.ModelCoil) api.Errno {
	if len(coils) > api.MaxModelCoils {
		return api.ErrLarge
	}
	known := map[string]bool{}
	for _, c := range coils {
		if _, e := checkCoil(c); e != api.OK {
			return e
		}
		if known[c.Name] {
			return api.ErrExists
		}
		known[c.Name] = true
	}
	return api.OK
}
