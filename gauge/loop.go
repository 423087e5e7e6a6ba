package gauge

import (
	"iter"
	"slices"

	"cobble/api"
)

// coefficients are the ranges of the numerators of the coefficients of a loop.
type coefficients []api.Range

// loop is a loop that has no error.
type loop struct {
	coefficients
	den int
}

// loopOf returns the error of a loop.
func loopOf(l api.GaugeLoop) (loop, api.Errno) {
	if e := CheckLoop(l); e != api.OK {
		return loop{}, e
	}
	return loop{l.Coefs, l.Den}, api.OK
}

// exactLoopOf returns the error of a loop that must be exact.
func exactLoopOf(l api.GaugeLoop) (loop, api.Errno) {
	x, e := loopOf(l)
	if e == api.OK && !x.areExact() {
		return loop{}, api.ErrForm
	}
	return x, e
}

// CheckLoop returns the first error of a loop.
func CheckLoop(l api.GaugeLoop) api.Errno {
	if e := checkCount(len(l.Coefs), api.MaxGaugeOrder); e != api.OK {
		return e
	}
	for _, r := range l.Coefs {
		if e := firstError(size(api.MaxGaugeCoef)(r.Lo, r.Hi), checkEnds(r)); e != api.OK {
			return e
		}
	}
	return limit(1, api.MaxGaugeCoef)(l.Den)
}

func (c coefficients) areExact() bool {
	return !slices.ContainsFunc(c, func(r api.Range) bool { return r.Lo != r.Hi })
}

// checkStart returns the error of a start.
func (c coefficients) checkStart(start []int) api.Errno {
	return firstError(checkSame(len(c), len(start)), size(api.MaxGaugeStart)(start...))
}

// checkTicks returns the error of the numerators of all ticks.
func (c coefficients) checkTicks(numerators [][]int) api.Errno {
	if len(numerators) > api.MaxGaugeTicks {
		return api.ErrLarge
	}
	for _, l := range numerators {
		if e := c.checkTick(l); e != api.OK {
			return e
		}
	}
	return api.OK
}

func (c coefficients) checkTick(numerators []int) api.Errno {
	if e := checkSame(len(c), len(numerators)); e != api.OK {
		return e
	}
	for i, n := range numerators {
		if e := within(c[i], api.ErrBreak)(n); e != api.OK {
			return e
		}
	}
	return api.OK
}

// tick is the numerators of the coefficients at a tick, and its disturbance.
type tick struct {
	numerators  []int
	disturbance int
}

// ticksOf yields the ticks of a run.
func ticksOf(numerators [][]int, disturbances []int) iter.Seq[tick] {
	return func(yield func(tick) bool) {
		for i, l := range numerators {
			if !yield(tick{l, disturbances[i]}) {
				return
			}
		}
	}
}

// pulse yields the first ticks of the response of an exact loop.
func (c coefficients) pulse(ticks int) iter.Seq[tick] {
	var numerators []int
	for _, r := range c {
		numerators = append(numerators, r.Lo)
	}
	disturbances := make([]int, ticks)
	disturbances[0] = 1
	return ticksOf(slices.Repeat([][]int{numerators}, ticks), disturbances)
}

// state is the last numbers of a loop, the last one first, as numerators over one
// Den, which is a power of that of the loop: no number of the few ticks that are
// looked at leaves an int.
type state struct {
	numbers []int
	den     int
}

// after is the state after a tick.
func (l loop) after(s state, t tick) state {
	next := state{den: s.den * l.den}
	number := t.disturbance * next.den
	for i, n := range s.numbers {
		number += t.numerators[i] * n
		next.numbers = append(next.numbers, n*l.den)
	}
	last := len(s.numbers) - 1
	next.numbers = slices.Insert(next.numbers[:last], 0, number)
	return next
}

// states yields the state after each tick.
func (l loop) states(start []int, ticks iter.Seq[tick]) iter.Seq[state] {
	return func(yield func(state) bool) {
		s := state{start, 1}
		for t := range ticks {
			s = l.after(s, t)
			if !yield(s) {
				return
			}
		}
	}
}

// responses yields the states of a response at its first ticks.
func (l loop) responses(ticks int) iter.Seq[state] {
	return l.states(make([]int, len(l.coefficients)), l.pulse(ticks))
}

// newestOf is the newest number of each state.
func newestOf(states iter.Seq[state]) ([]api.Frac, api.Errno) {
	var l []api.Frac
	for s := range states {
		f, e := smallEnough(s.numbers[0], s.den)
		if e != api.OK {
			return nil, e
		}
		l = append(l, f)
	}
	return l, api.OK
}

// RunOf returns the numbers of all ticks of a run.
func RunOf(l api.GaugeLoop, x api.GaugeRun) ([]api.Frac, api.Errno) {
	run, e := loopOf(l)
	e = firstError(e,
		run.checkStart(x.Start),
		run.checkTicks(x.Coefs),
		checkSame(len(x.Coefs), len(x.Disturbances)),
		size(api.MaxGaugeStart)(x.Disturbances...))
	if e != api.OK {
		return nil, e
	}
	return newestOf(run.states(x.Start, ticksOf(x.Coefs, x.Disturbances)))
}

// ResponseOf returns the response of an exact loop at the ticks 0 to steps.
func ResponseOf(l api.GaugeLoop, steps int) ([]api.Frac, api.Errno) {
	x, e := exactLoopOf(l)
	if e := firstError(e, limit(0, api.MaxGaugeTicks)(steps)); e != api.OK {
		return nil, e
	}
	return newestOf(x.responses(steps + 1))
}

// CheckGrowth accepts a growth, and returns its factor.
func CheckGrowth(l api.GaugeLoop, g api.GaugeGrowth) (api.Frac, api.Errno) {
	x, e := loopOf(l)
	if e := firstError(e, x.checkStart(g.Start), x.checkTicks(g.Coefs)); e != api.OK {
		return api.Frac{}, e
	}
	at := slices.IndexFunc(g.Start, func(n int) bool { return n != 0 })
	switch {
	case len(g.Coefs) == 0:
		return api.Frac{}, api.ErrShape
	case at < 0:
		return api.Frac{}, api.ErrZero
	}
	var end state
	for end = range x.states(g.Start, ticksOf(g.Coefs, make([]int, len(g.Coefs)))) {
	}
	num, den := end.numbers[at], g.Start[at]*end.den
	if !end.isMultiple(g.Start, at) || max(num, -num) < max(den, -den) {
		return api.Frac{}, api.ErrProof
	}
	return smallEnough(num, den)
}

// isMultiple tells whether a state is some number times a start, which is not 0 at
// an index.
func (s state) isMultiple(start []int, at int) bool {
	for i, n := range s.numbers {
		if n*start[at] != s.numbers[at]*start[i] {
			return false
		}
	}
	return true
}
