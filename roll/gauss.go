package roll

import "cobble/api"

// All parts of the complex numbers of this package are whole, and below 2^53 in
// size, so that no float is rounded.

func complexOf(re, im int) complex128 {
	return complex(float64(re), float64(im))
}

func gaussOf(z complex128) api.Gauss {
	return api.Gauss{Re: int(real(z)), Im: int(imag(z))}
}

// turned is a number turned by so many quarters, backwards if they are below 0.
func turned(z complex128, by int) complex128 {
	for range modulo(by, turn) {
		z *= 1i
	}
	return z
}

// checkAmplitude returns the error of amplitudes.
func checkAmplitude(amplitudes ...api.Gauss) api.Errno {
	for _, g := range amplitudes {
		if e := size(api.MaxRollPart)(g.Re, g.Im); e != api.OK {
			return e
		}
	}
	return api.OK
}
