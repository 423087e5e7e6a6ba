package gauge

import "cobble/api"

func checkModulus(numbers ...int) api.Errno {
	return limit(1, api.MaxGaugeModulus)(numbers...)
}

func checkPlastic(numbers ...int) api.Errno {
	return limit(0, api.MaxGaugeModulus)(numbers...)
}

func checkThickness(numbers ...int) api.Errno {
	return limit(1, api.MaxGaugeThickness)(numbers...)
}

func checkPass(x api.GaugePass) api.Errno {
	return firstError(limit(0, api.MaxGaugeThickness)(x.Gap), checkThickness(x.Entry))
}

// CheckStand returns the first error of a stand.
func CheckStand(s api.GaugeStand) api.Errno {
	return firstError(
		checkModulus(s.Modulus.Lo, s.Modulus.Hi),
		checkPlastic(s.Plastic.Lo, s.Plastic.Hi),
		checkEnds(s.Modulus, s.Plastic))
}

// exitOf is the exit thickness of a pass that has no error.
func exitOf(modulus, plastic int, x api.GaugePass) api.Frac {
	return lowestTerms(modulus*x.Gap+plastic*x.Entry, modulus+plastic)
}

// gapOf is the gap for an entry and an exit thickness.
func gapOf(modulus, plastic, entry, exit int) api.Frac {
	return lowestTerms(exit*modulus-plastic*(entry-exit), modulus)
}

// ExitOf returns the exit thickness of a pass.
func ExitOf(modulus, plastic int, x api.GaugePass) (api.Frac, api.Errno) {
	if e := firstError(checkModulus(modulus), checkPlastic(plastic), checkPass(x)); e != api.OK {
		return api.Frac{}, e
	}
	return exitOf(modulus, plastic, x), api.OK
}

// spanOver is the minimum and the maximum of what depends on the modulus and the
// stiffness, and grows or falls with each of both, so that its ends are at theirs.
func spanOver(s api.GaugeStand, of func(modulus, plastic int) api.Frac) api.Span {
	first := of(s.Modulus.Lo, s.Plastic.Lo)
	span := api.Span{Lo: first, Hi: first}
	for _, modulus := range endsOf(s.Modulus) {
		for _, plastic := range endsOf(s.Plastic) {
			f := of(modulus, plastic)
			if isLess(f, span.Lo) {
				span.Lo = f
			}
			if isLess(span.Hi, f) {
				span.Hi = f
			}
		}
	}
	return span
}

// ExitSpan returns the span of the exit thickness of a pass.
func ExitSpan(s api.GaugeStand, x api.GaugePass) (api.Span, api.Errno) {
	if e := firstError(CheckStand(s), checkPass(x)); e != api.OK {
		return api.Span{}, e
	}
	return spanOver(s, func(modulus, plastic int) api.Frac {
		return exitOf(modulus, plastic, x)
	}), api.OK
}

// GapSpan returns the span of the gap for an entry and an exit thickness.
func GapSpan(s api.GaugeStand, entry, exit int) (api.Span, api.Errno) {
	if e := firstError(CheckStand(s), checkThickness(entry, exit)); e != api.OK {
		return api.Span{}, e
	}
	if exit > entry {
		return api.Span{}, api.ErrOrder
	}
	return spanOver(s, func(modulus, plastic int) api.Frac {
		return gapOf(modulus, plastic, entry, exit)
	}), api.OK
}

// MassFlow returns what passes each stand, minus what passes the first one.
func MassFlow(speeds []int, exits []int) ([]int, api.Errno) {
	e := firstError(
		checkSame(len(speeds), len(exits)),
		checkCount(len(speeds), api.MaxGaugeStands),
		limit(0, api.MaxGaugeSpeed)(speeds...),
		checkThickness(exits...))
	if e != api.OK {
		return nil, e
	}
	var l []int
	for i, speed := range speeds {
		l = append(l, speed*exits[i]-speeds[0]*exits[0])
	}
	return l, api.OK
}
