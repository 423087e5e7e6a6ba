package flat

import "cobble/api"

// million is how many millionths a whole has.
const million = 1000000

// CheckProfile returns the first error of a profile.
func CheckProfile(p []int) api.Errno {
	if len(p)%2 == 0 {
		return api.ErrShape
	}
	return firstError(checkCount(len(p), 3, api.MaxFlatNodes), limit(1, api.MaxFlatHeight)(p...))
}

// CrownOf returns the crown of a profile.
func CrownOf(p []int) (api.Frac, api.Errno) {
	if e := CheckProfile(p); e != api.OK {
		return api.Frac{}, e
	}
	return lowestTerms(2*p[len(p)/2]-p[0]-p[len(p)-1], 2), api.OK
}

// WedgeOf returns the wedge of a profile.
func WedgeOf(p []int) (int, api.Errno) {
	if e := CheckProfile(p); e != api.OK {
		return 0, e
	}
	return p[0] - p[len(p)-1], api.OK
}

// ChangesOf returns the changes from a profile before a stand to one after it.
func ChangesOf(before, after []int) ([]api.Frac, api.Errno) {
	e := firstError(CheckProfile(before), CheckProfile(after), checkSame(len(before), len(after)))
	if e != api.OK {
		return nil, e
	}
	all, left := sum(before), sum(after)
	var l []api.Frac
	for i, n := range before {
		mean := after[i] * all
		change, e := smallEnough(n*left-mean, mean)
		if e != api.OK {
			return nil, e
		}
		l = append(l, change)
	}
	return l, api.OK
}

func sum(numbers []int) int {
	s := 0
	for _, n := range numbers {
		s += n
	}
	return s
}

// checkLaw returns the first error of a law.
func checkLaw(r api.FlatLaw) api.Errno {
	return firstError(
		limit(0, api.MaxFlatLaw)(r.Edge.Lo, r.Edge.Hi, r.Center.Lo, r.Center.Hi),
		checkEnds(r.Edge, r.Center))
}

// checkChange returns the first error of a change.
func checkChange(f api.Frac) api.Errno {
	if f.Den <= 0 || divisor(f.Num, f.Den) != 1 {
		return api.ErrForm
	}
	return size(api.MaxPart)(f.Num, f.Den)
}

// BucklesOf returns the answer for each change.
func BucklesOf(r api.FlatLaw, changes []api.Frac) ([]int, api.Errno) {
	_, wrong := firstWrong(changes, checkChange)
	e := firstError(checkLaw(r), checkCount(len(changes), 3, api.MaxFlatNodes), wrong)
	if e != api.OK {
		return nil, e
	}
	answers := each(changes, buckles(r.Center))
	edges := [2]int{0, len(changes) - 1}
	for _, i := range edges {
		answers[i] = buckles(r.Edge)(changes[i])
	}
	return answers, api.OK
}

// buckles returns what the answer for a change is, by limits in millionths.
func buckles(limits api.Range) func(api.Frac) int {
	return func(change api.Frac) int {
		switch n := million * change.Num; {
		case n > limits.Hi*change.Den:
			return api.AnswerYes
		case n <= limits.Lo*change.Den:
			return api.AnswerNo
		}
		return api.AnswerMaybe
	}
}
