package roll

import "cobble/api"

// turn is how many quarters a turn has.
const turn = 4

// drum is a roll that has no error.
type drum struct{ api.RollDrum }

// drumOf returns the error of a roll.
func drumOf(d api.RollDrum) (drum, api.Errno) {
	if e := CheckDrum(d); e != api.OK {
		return drum{}, e
	}
	return drum{d}, api.OK
}

// CheckDrum returns the first error of a roll.
func CheckDrum(d api.RollDrum) api.Errno {
	e := firstError(checkName(d.Name), limit(turn, api.MaxRollPeriod)(d.Period))
	if e != api.OK {
		return e
	}
	if d.Period%turn != 0 {
		return api.ErrForm
	}
	return limit(0, d.Period-1)(d.Offset)
}

func (d drum) quarterAt(sample int) int {
	return (sample + d.Offset) % d.Period * turn / d.Period
}

// waveAt is the wave with an amplitude at a sample.
func (d drum) waveAt(sample int, amplitude complex128) int {
	return int(real(turned(amplitude, d.quarterAt(sample))))
}

// QuarterAt returns the quarter of a sample.
func QuarterAt(d api.RollDrum, sample int) (int, api.Errno) {
	x, e := drumOf(d)
	if e := firstError(e, limit(0, api.MaxRollSamples-1)(sample)); e != api.OK {
		return 0, e
	}
	return x.quarterAt(sample), api.OK
}

// WaveOf returns the first samples of a wave.
func WaveOf(d api.RollDrum, g api.Gauss, count int) ([]int, api.Errno) {
	x, e := drumOf(d)
	e = firstError(e, checkAmplitude(g), limit(1, api.MaxRollSamples)(count))
	if e != api.OK {
		return nil, e
	}
	var l []int
	for k := range count {
		l = append(l, x.waveAt(k, complexOf(g.Re, g.Im)))
	}
	return l, api.OK
}
