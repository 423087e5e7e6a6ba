package flat

import (
	"iter"

	"cobble/api"
)

// rules are rules that have no error.
type rules struct{ api.FlatRules }

// rulesOf returns the error of rules.
func rulesOf(r api.FlatRules) (rules, api.Errno) {
	if _, e := CheckRules(r); e != api.OK {
		return rules{}, e
	}
	return rules{r}, api.OK
}

// CheckRules returns the first error of rules, and the index of its actuator.
func CheckRules(r api.FlatRules) (int, api.Errno) {
	e := firstError(
		checkCount(len(r.Target), 1, api.MaxFlatNodes),
		size(api.MaxFlatTarget)(r.Target...),
		checkCount(len(r.Actors), 1, api.MaxFlatActors))
	if e != api.OK {
		return 0, e
	}
	return firstWrong(r.Actors, func(a api.FlatActor) api.Errno {
		return firstError(
			size(api.MaxFlatSetting)(a.Settings.Lo, a.Settings.Hi),
			checkEnds(a.Settings),
			checkSame(len(a.Effects), len(r.Target)),
			size(api.MaxFlatEffect)(a.Effects...))
	})
}

// checkSettings returns the error of settings.
func (r rules) checkSettings(settings []int) api.Errno {
	if e := checkSame(len(settings), len(r.Actors)); e != api.OK {
		return e
	}
	for k, n := range settings {
		if e := within(r.Actors[k].Settings, api.ErrBreak)(n); e != api.OK {
			return e
		}
	}
	return api.OK
}

// deviations are those of settings, at each position.
func (r rules) deviations(settings []int) []int {
	var l []int
	for i, n := range r.Target {
		for k, setting := range settings {
			n -= setting * r.Actors[k].Effects[i]
		}
		l = append(l, n)
	}
	return l
}

// maximum is the greatest size of the deviations of settings.
func (r rules) maximum(settings []int) int {
	most := 0
	for _, n := range r.deviations(settings) {
		most = max(most, n, -n)
	}
	return most
}

// settings yields all whole settings, in lexicographic order.
func (r rules) settings() iter.Seq[[]int] {
	return settingsOf(r.Actors)
}

// settingsOf yields all whole settings of some actuators. Settings that are yielded
// are the receiver's own.
func settingsOf(actors []api.FlatActor) iter.Seq[[]int] {
	return func(yield func([]int) bool) {
		if len(actors) == 0 {
			yield(nil)
			return
		}
		for n := actors[0].Settings.Lo; n <= actors[0].Settings.Hi; n++ {
			for others := range settingsOf(actors[1:]) {
				if !yield(append([]int{n}, others...)) {
					return
				}
			}
		}
	}
}

// DeviationsOf returns the deviations of settings.
func DeviationsOf(r api.FlatRules, settings []int) ([]int, api.Errno) {
	x, e := rulesOf(r)
	if e := firstError(e, x.checkSettings(settings)); e != api.OK {
		return nil, e
	}
	return x.deviations(settings), api.OK
}

// MaximumOf returns the maximum of settings.
func MaximumOf(r api.FlatRules, settings []int) (int, api.Errno) {
	x, e := rulesOf(r)
	if e := firstError(e, x.checkSettings(settings)); e != api.OK {
		return 0, e
	}
	return x.maximum(settings), api.OK
}

// Best returns the best settings, and their maximum.
func Best(r api.FlatRules) ([]int, int, api.Errno) {
	x, e := rulesOf(r)
	if e != api.OK {
		return nil, 0, e
	}
	var best []int
	var least int
	for settings := range x.settings() {
		if n := x.maximum(settings); best == nil || n < least {
			best, least = settings, n
		}
	}
	return best, least, api.OK
}

// BoundOf returns the bound of weights.
func BoundOf(r api.FlatRules, weights []int) (api.Frac, api.Errno) {
	x, e := rulesOf(r)
	e = firstError(e, checkSame(len(weights), len(x.Target)), size(api.MaxFlatWeight)(weights...))
	if e != api.OK {
		return api.Frac{}, e
	}
	all := 0
	for _, n := range weights {
		all += max(n, -n)
	}
	if all == 0 {
		return api.Frac{}, api.ErrZero
	}
	bound := product(weights, x.Target)
	for _, a := range x.Actors {
		c := product(weights, a.Effects)
		bound -= max(c*a.Settings.Lo, c*a.Settings.Hi)
	}
	return smallEnough(bound, all)
}

// product is the sum of each weight times its number.
func product(weights, numbers []int) int {
	s := 0
	for i, n := range weights {
		s += n * numbers[i]
	}
	return s
}
