package gauge

import (
	"slices"

	"cobble/api"
)

// chain is the loopers of a chain that has no error.
type chain []api.GaugeLooper

// chainOf returns the error of a chain.
func chainOf(c api.GaugeChain) (chain, api.Errno) {
	if _, e := CheckChain(c); e != api.OK {
		return nil, e
	}
	return c.Loopers, api.OK
}

// CheckChain returns the first error of a chain, and the index of its looper.
func CheckChain(c api.GaugeChain) (int, api.Errno) {
	if e := checkCount(len(c.Loopers), api.MaxGaugeLoopers); e != api.OK {
		return 0, e
	}
	for i, x := range c.Loopers {
		if e := checkLooper(x); e != api.OK {
			return i, e
		}
	}
	return 0, api.OK
}

func checkLooper(x api.GaugeLooper) api.Errno {
	e := firstError(
		size(api.MaxGaugeHeight)(x.Target, x.Disturbance.Lo, x.Disturbance.Hi, x.Limits.Lo, x.Limits.Hi),
		limit(0, api.MaxGaugeGain)(x.Num),
		limit(1, api.MaxGaugeGain)(x.Den))
	if e != api.OK {
		return e
	}
	if x.Num > x.Den {
		return api.ErrForm
	}
	return firstError(checkEnds(x.Disturbance, x.Limits), checkHeights(x, x.Target))
}

// checkHeights returns the error of heights that must be in the limits of a looper.
func checkHeights(x api.GaugeLooper, heights ...int) api.Errno {
	return within(x.Limits, api.ErrBreak)(heights...)
}

// correctionAt is the correction of a looper with an index; 0 after the last one.
func (c chain) correctionAt(i int, heights []int) int {
	if i == len(c) {
		return 0
	}
	return c[i].Num * (heights[i] - c[i].Target) / c[i].Den
}

// after is the heights after a tick.
func (c chain) after(x api.GaugeMove) []int {
	var l []int
	for i, height := range x.Heights {
		l = append(l, height-c.correctionAt(i, x.Heights)+c.correctionAt(i+1, x.Heights)+x.Disturbances[i])
	}
	return l
}

// ChainStep returns the heights after a tick.
func ChainStep(c api.GaugeChain, x api.GaugeMove) ([]int, api.Errno) {
	l, e := chainOf(c)
	if e := firstError(e, checkSame(len(l), len(x.Heights), len(x.Disturbances))); e != api.OK {
		return nil, e
	}
	for i, looper := range l {
		e := firstError(
			checkHeights(looper, x.Heights[i]),
			within(looper.Disturbance, api.ErrRange)(x.Disturbances[i]))
		if e != api.OK {
			return nil, e
		}
	}
	return l.after(x), api.OK
}

// boxAfter is the least and the greatest heights after a tick from a box: both
// from its ends, since a greater height never leads to a smaller one.
func (c chain) boxAfter(box []api.Range) []api.Range {
	var moves [2]api.GaugeMove
	for end := range moves {
		for i, r := range box {
			moves[end].Heights = append(moves[end].Heights, endsOf(r)[end])
			moves[end].Disturbances = append(moves[end].Disturbances, endsOf(c[i].Disturbance)[end])
		}
	}
	return boxOf(c.after(moves[0]), c.after(moves[1]))
}

// boxOf is the box between least and greatest heights.
func boxOf(least, greatest []int) []api.Range {
	var box []api.Range
	for i, lo := range least {
		box = append(box, api.Range{Lo: lo, Hi: greatest[i]})
	}
	return box
}

// CheckBox accepts a box that is kept and lies in the limits; it returns the first
// error, and the index of its looper.
func CheckBox(c api.GaugeChain, box []api.Range) (int, api.Errno) {
	l, e := chainOf(c)
	if e := firstError(e, checkSame(len(l), len(box))); e != api.OK {
		return 0, e
	}
	for i, r := range box {
		if e := firstError(checkEnds(r), checkHeights(l[i], r.Lo, r.Hi)); e != api.OK {
			return i, e
		}
	}
	for i, r := range l.boxAfter(box) {
		if e := within(box[i], api.ErrProof)(r.Lo, r.Hi); e != api.OK {
			return i, e
		}
	}
	return 0, api.OK
}

// BoxFor returns the smallest box that is kept and contains heights.
func BoxFor(c api.GaugeChain, start []int) ([]api.Range, api.Errno) {
	l, e := chainOf(c)
	if e := firstError(e, checkSame(len(l), len(start))); e != api.OK {
		return nil, e
	}
	for i, height := range start {
		if e := checkHeights(l[i], height); e != api.OK {
			return nil, e
		}
	}
	// Each box that is kept and contains the start contains what it grows to; the
	// limits end the growth.
	box := boxOf(start, start)
	for {
		grown := bothOf(box, l.boxAfter(box))
		if slices.Equal(grown, box) {
			return box, api.OK
		}
		if !l.isInLimits(grown) {
			return nil, api.ErrNone
		}
		box = grown
	}
}

// bothOf is the smallest box that contains two boxes.
func bothOf(box, other []api.Range) []api.Range {
	var l []api.Range
	for i, r := range box {
		l = append(l, api.Range{Lo: min(r.Lo, other[i].Lo), Hi: max(r.Hi, other[i].Hi)})
	}
	return l
}

func (c chain) isInLimits(box []api.Range) bool {
	for i, r := range box {
		if checkHeights(c[i], r.Lo, r.Hi) != api.OK {
			return false
		}
	}
	return true
}
