package roll

import (
	"slices"

	"cobble/api"
)

// record is samples that have no error, and the roll that is measured by them.
type record struct {
	drum
	samples []int
}

// recordFor returns the errors of samples and a roll, of which there must be so
// many half turns.
func recordFor(x []int, d api.RollDrum, halfTurns int) (record, api.Errno) {
	if e := firstError(CheckRecord(x), CheckDrum(d)); e != api.OK {
		return record{}, e
	}
	if len(x) < halfTurns*(d.Period/2) {
		return record{}, api.ErrShape
	}
	return record{drum{d}, x}, api.OK
}

// CheckRecord returns the first error of a record.
func CheckRecord(x []int) api.Errno {
	switch {
	case len(x) == 0:
		return api.ErrShape
	case len(x) > api.MaxRollSamples:
		return api.ErrLarge
	}
	return size(api.MaxRollSample)(x...)
}

// quarters are the sums of the samples of each quarter.
type quarters [turn]int

// harmonic is that of a number; that of 1 is the sum of a record.
func (s quarters) harmonic(n int) api.Gauss {
	var z complex128
	for q, sum := range s {
		z += turned(complexOf(sum, 0), -n*q)
	}
	return gaussOf(z)
}

// whole is the number of the samples of the whole turns.
func (r record) whole() int {
	return len(r.samples) - len(r.samples)%r.Period
}

func (r record) quarters() quarters {
	var s quarters
	for k, sample := range r.samples[:r.whole()] {
		s[r.quarterAt(k)] += sample
	}
	return s
}

// average is so many times the sum, divided by the number of its samples.
func (r record) average(times int) api.RollAmplitude {
	sum := r.quarters().harmonic(1)
	return api.RollAmplitude{
		Re: lowestTerms(times*sum.Re, r.whole()),
		Im: lowestTerms(times*sum.Im, r.whole()),
	}
}

// amplitude is that of the roll: half of the samples of a turn measure each part.
func (r record) amplitude() api.RollAmplitude {
	return r.average(2)
}

func (r record) nearest() api.Gauss {
	a := r.amplitude()
	return api.Gauss{Re: nearest(a.Re), Im: nearest(a.Im)}
}

// nearest is a fraction, rounded to the nearest whole number, halves towards 0.
func nearest(f api.Frac) int {
	n := (2*max(f.Num, -f.Num) + f.Den - 1) / (2 * f.Den)
	if f.Num < 0 {
		return -n
	}
	return n
}

// differences are those to the samples half a turn later: a wave is doubled in
// them.
func (r record) differences() record {
	half := r.Period / 2
	x := record{drum: r.drum}
	for k, later := range r.samples[half:] {
		x.samples = append(x.samples, r.samples[k]-later)
	}
	return x
}

// without is the record minus the wave of an amplitude.
func (r record) without(g api.Gauss) []int {
	var l []int
	for k, sample := range r.samples {
		l = append(l, sample-r.waveAt(k, complexOf(g.Re, g.Im)))
	}
	return l
}

// SumOf returns the sum of a record.
func SumOf(x []int, d api.RollDrum) (api.Gauss, api.Errno) {
	r, e := recordFor(x, d, 2)
	if e != api.OK {
		return api.Gauss{}, e
	}
	return r.quarters().harmonic(1), api.OK
}

// AmplitudeOf returns the amplitude of a roll in a record.
func AmplitudeOf(x []int, d api.RollDrum) (api.RollAmplitude, api.Errno) {
	r, e := recordFor(x, d, 2)
	if e != api.OK {
		return api.RollAmplitude{}, e
	}
	return r.amplitude(), api.OK
}

// SteadyOf returns the steady amplitude of a roll in a record.
func SteadyOf(x []int, d api.RollDrum) (api.RollAmplitude, api.Errno) {
	r, e := recordFor(x, d, 3)
	if e != api.OK {
		return api.RollAmplitude{}, e
	}
	return r.differences().average(1), api.OK
}

// HarmonicsOf returns the harmonics of a record.
func HarmonicsOf(x []int, d api.RollDrum) ([4]api.Gauss, api.Errno) {
	r, e := recordFor(x, d, 2)
	if e != api.OK {
		return [4]api.Gauss{}, e
	}
	var h [turn]api.Gauss
	for n := range h {
		h[n] = r.quarters().harmonic(n)
	}
	return h, api.OK
}

// QuartersOf returns the sums of the quarters that have some harmonics.
func QuartersOf(h [4]api.Gauss) ([4]int, api.Errno) {
	for _, g := range h {
		if e := size(api.MaxPart)(g.Re, g.Im); e != api.OK {
			return [4]int{}, e
		}
	}
	var s quarters
	for q := range s {
		var z complex128
		for n, g := range h {
			z += turned(complexOf(g.Re, g.Im), n*q)
		}
		times := gaussOf(z) // the sum, times the number of the harmonics
		if times.Im != 0 || times.Re%turn != 0 {
			return [4]int{}, api.ErrForm
		}
		s[q] = times.Re / turn
	}
	return s, api.OK
}

// NearestOf returns the nearest amplitude of a roll in a record.
func NearestOf(x []int, d api.RollDrum) (api.Gauss, api.Errno) {
	r, e := recordFor(x, d, 2)
	if e != api.OK {
		return api.Gauss{}, e
	}
	return r.nearest(), api.OK
}

// Cancelled returns a record minus the wave of an amplitude.
func Cancelled(x []int, d api.RollDrum, g api.Gauss) ([]int, api.Errno) {
	r, e := recordFor(x, d, 0)
	if e := firstError(e, checkAmplitude(g)); e != api.OK {
		return nil, e
	}
	return r.without(g), api.OK
}

// Run returns the run of a record.
func Run(x []int, d api.RollDrum) ([]int, api.Errno) {
	r, e := recordFor(x, d, 2)
	if e != api.OK {
		return nil, e
	}
	// Each turn begins at the same angle, so that the quarters of its own samples
	// are those of the record.
	turns := slices.Collect(slices.Chunk(x, r.Period))
	l := slices.Clone(turns[0])
	for before, samples := range turns[1:] {
		wave := record{r.drum, turns[before]}.nearest()
		l = append(l, record{r.drum, samples}.without(wave)...)
	}
	return l, api.OK
}
