package gauge

import "cobble/api"

// lowestTerms is a fraction; den is not 0.
func lowestTerms(num, den int) api.Frac {
	a, b := num, den
	for b != 0 {
		a, b = b, a%b
	}
	if (a < 0) != (den < 0) {
		a = -a
	}
	return api.Frac{Num: num / a, Den: den / a}
}

// smallEnough is a fraction in lowest terms, or the error of its parts.
func smallEnough(num, den int) (api.Frac, api.Errno) {
	f := lowestTerms(num, den)
	if size(api.MaxPart)(f.Num, f.Den) != api.OK {
		return api.Frac{}, api.ErrLarge
	}
	return f, api.OK
}

// isLess compares fractions whose parts are small.
func isLess(f, g api.Frac) bool {
	return f.Num*g.Den < g.Num*f.Den
}

// greatest is the greatest one of fractions that are not below 0; 0 of none.
func greatest(fractions ...api.Frac) api.Frac {
	most := api.Frac{Den: 1}
	for _, f := range fractions {
		if isLess(most, f) {
			most = f
		}
	}
	return most
}

// sum is the sum of fractions whose parts are small.
func sum(fractions ...api.Frac) api.Frac {
	s := api.Frac{Den: 1}
	for _, f := range fractions {
		s = lowestTerms(s.Num*f.Den+f.Num*s.Den, s.Den*f.Den)
	}
	return s
}
