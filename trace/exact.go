package trace

import "cobble/api"

// exact is a fraction of any size, which need not be in lowest terms; den is not 0.
type exact struct {
	negative bool
	num, den natural
}

// exactOf is a fraction with Den above 0. The size of a negative number is taken as that
// of an unsigned one, since the least int has none of its own.
func exactOf(f api.Frac) exact {
	num := uint64(f.Num)
	if f.Num < 0 {
		num = -num
	}
	return exact{f.Num < 0, naturalOf(num), naturalOf(uint64(f.Den))}
}

func whole(n int) exact {
	return exactOf(api.Frac{Num: n, Den: 1})
}

// isReduced tells whether a fraction is in lowest terms.
func (x exact) isReduced() bool {
	return !naturalOf(1).less(divisor(x.num, x.den))
}

// reduced is the same fraction in lowest terms.
func (x exact) reduced() exact {
	d := divisor(x.num, x.den)
	num, _ := x.num.divided(d)
	den, _ := x.den.divided(d)
	return exact{x.negative, num, den}
}

// frac is the same fraction as a result, or the error of its parts.
func (x exact) frac() (api.Frac, api.Errno) {
	x = x.reduced()
	most := naturalOf(api.MaxPart)
	if most.less(x.num) || most.less(x.den) {
		return api.Frac{}, api.ErrLarge
	}
	num := int(x.num.digit(0))
	if x.negative {
		num = -num
	}
	return api.Frac{Num: num, Den: int(x.den.digit(0))}, api.OK
}

func (x exact) plus(y exact) exact {
	a, b, den := x.num.times(y.den), y.num.times(x.den), x.den.times(y.den)
	switch {
	case x.negative == y.negative:
		return exact{x.negative, a.plus(b), den}
	case a.less(b):
		return exact{y.negative, b.minus(a), den}
	}
	return exact{x.negative, a.minus(b), den}
}

func (x exact) minus(y exact) exact {
	y.negative = !y.negative
	return x.plus(y)
}

func (x exact) times(y exact) exact {
	return exact{x.negative != y.negative, x.num.times(y.num), x.den.times(y.den)}
}

// over is a quotient; y is not 0.
func (x exact) over(y exact) exact {
	return x.times(exact{y.negative, y.den, y.num})
}

// compare is below 0 if x is less than y, 0 if they are equal, and above 0 otherwise.
func (x exact) compare(y exact) int {
	switch d := x.minus(y); {
	case d.num.isZero():
		return 0
	case d.negative:
		return -1
	}
	return 1
}

func (x exact) less(y exact) bool {
	return x.compare(y) < 0
}

// least is the lesser one of two fractions.
func least(x, y exact) exact {
	if y.less(x) {
		return y
	}
	return x
}

// left is what is left of x, which is not below 0, without whole multiples of a number
// above 0.
func (x exact) left(number int) exact {
	_, num := x.num.divided(whole(number).num.times(x.den))
	return exact{num: num, den: x.den}
}
