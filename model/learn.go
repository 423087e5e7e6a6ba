package model

import (
	"cmp"
	"slices"

	"cobble/api"
)

// lossAt is the loss for a coil at a step. It is not in lowest terms, but has the
// same Den at all steps.
func (g grade) lossAt(coil api.ModelCoil, step int) api.Frac {
	gain := g.gainAt(step)
	loss := api.Frac{Den: gain.Den}
	for _, x := range coil.Readings {
		difference := valueIn(g.Table, x.X)*gain.Num - x.Force*gain.Den
		loss.Num += max(difference, -difference)
	}
	return loss
}

// LossOf returns the loss of a correction for a coil.
func LossOf(r api.ModelRules, c api.ModelCorrection, coil api.ModelCoil) (api.Frac, api.Errno) {
	g, e := gradeFor(r, c)
	_, wrongCoil := checkCoil(coil)
	if e := firstError(e, wrongCoil); e != api.OK {
		return api.Frac{}, e
	}
	return smallEnough(g.lossAt(coil, c.At))
}

// bestOf is the first one of some steps with the minimum loss for a coil.
func (g grade) bestOf(coil api.ModelCoil, steps ...int) int {
	return slices.MinFunc(steps, func(n, m int) int {
		return cmp.Compare(g.lossAt(coil, n).Num, g.lossAt(coil, m).Num)
	})
}

// learned is what a correction learns from a coil.
func (g grade) learned(c api.ModelCorrection, coil api.ModelCoil) api.ModelCorrection {
	outside := func(step int) bool { return limit(0, g.Steps)(step) != api.OK }
	near := slices.DeleteFunc([]int{c.At, c.At - 1, c.At + 1}, outside)
	return api.ModelCorrection{Version: c.Version + 1, At: g.bestOf(coil, near...)}
}

// checkGrowth returns the error of a correction whose version is to grow.
func checkGrowth(c api.ModelCorrection, by int) api.Errno {
	if c.Version+by > api.MaxModelVersion {
		return api.ErrLarge
	}
	return api.OK
}

// Learned returns what a correction learns from a coil.
func Learned(r api.ModelRules, c api.ModelCorrection, coil api.ModelCoil) (api.ModelCorrection, api.Errno) {
	g, e := gradeFor(r, c)
	_, wrongCoil := checkCoil(coil)
	if e := firstError(e, wrongCoil, checkGrowth(c, 1)); e != api.OK {
		return api.ModelCorrection{}, e
	}
	return g.learned(c, coil), api.OK
}

// BestFor returns the best correction for a coil.
func BestFor(r api.ModelRules, coil api.ModelCoil) (api.ModelCorrection, api.Errno) {
	if _, e := CheckCoil(r, coil); e != api.OK {
		return api.ModelCorrection{}, e
	}
	var steps []int
	for n := range r.Steps + 1 {
		steps = append(steps, n)
	}
	return api.ModelCorrection{At: grade{r}.bestOf(coil, steps...)}, api.OK
}

// gradeForHistory returns the errors of the rules, a correction and coils.
func gradeForHistory(r api.ModelRules, c api.ModelCorrection, coils []api.ModelCoil) (grade, api.Errno) {
	g, e := gradeFor(r, c)
	if e := firstError(e, checkCoils(coils), checkGrowth(c, len(coils))); e != api.OK {
		return grade{}, e
	}
	return g, api.OK
}

// history is a correction, and what it is after each coil.
func (g grade) history(c api.ModelCorrection, coils []api.ModelCoil) []api.ModelCorrection {
	l := []api.ModelCorrection{c}
	for _, coil := range coils {
		c = g.learned(c, coil)
		l = append(l, c)
	}
	return l
}

// HistoryOf returns the correction after each coil.
func HistoryOf(r api.ModelRules, c api.ModelCorrection, coils []api.ModelCoil) ([]api.ModelCorrection, api.Errno) {
	g, e := gradeForHistory(r, c, coils)
	if e != api.OK {
		return nil, e
	}
	return g.history(c, coils)[1:], api.OK
}

// MadeBy returns the names of the coils that made a part of the last correction.
func MadeBy(r api.ModelRules, c api.ModelCorrection, coils []api.ModelCoil) ([]string, api.Errno) {
	g, e := gradeForHistory(r, c, coils)
	if e != api.OK {
		return nil, e
	}
	var names []string
	l := g.history(c, coils)
	for i, coil := range coils {
		if l[i].At != l[i+1].At {
			names = append(names, coil.Name)
		}
	}
	return names, api.OK
}

// Without returns the last correction of the history without one coil.
func Without(r api.ModelRules, c api.ModelCorrection, coils []api.ModelCoil, name string) (api.ModelCorrection, api.Errno) {
	g, e := gradeForHistory(r, c, coils)
	if e := firstError(e, checkName(name)); e != api.OK {
		return api.ModelCorrection{}, e
	}
	others := slices.DeleteFunc(slices.Clone(coils), func(coil api.ModelCoil) bool { return coil.Name == name })
	if len(others) == len(coils) {
		return api.ModelCorrection{}, api.ErrMissing
	}
	return g.history(c, others)[len(others)], api.OK
}

// Forgotten returns a correction that forgets towards a step.
func Forgotten(r api.ModelRules, c api.ModelCorrection, toward, steps int) (api.ModelCorrection, api.Errno) {
	_, e := gradeFor(r, c)
	e = firstError(e,
		limit(0, r.Steps)(toward),
		limit(0, api.MaxModelGain)(steps),
		checkGrowth(c, 1))
	if e != api.OK {
		return api.ModelCorrection{}, e
	}
	by := max(-steps, min(steps, toward-c.At))
	return api.ModelCorrection{Version: c.Version + 1, At: c.At + by}, api.OK
}
