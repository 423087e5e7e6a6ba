package trace

import "math/bits"

// natural is a whole number from 0 on: its digits to the base 2^64, the last one first,
// and none of them in front that is 0. Parts of fractions that lead from one strip to
// another, and products of them, are greater than an int.
type natural []uint64

func naturalOf(n uint64) natural {
	return natural{n}.trimmed()
}

// trimmed is a number without zeros in front.
func (a natural) trimmed() natural {
	n := len(a)
	for n > 0 && a[n-1] == 0 {
		n--
	}
	return a[:n]
}

// digit is a digit of a number, which may lie in front of its first one.
func (a natural) digit(i int) uint64 {
	if i < len(a) {
		return a[i]
	}
	return 0
}

func (a natural) isZero() bool {
	return len(a) == 0
}

func (a natural) less(b natural) bool {
	for i := max(len(a), len(b)) - 1; i >= 0; i-- {
		if a.digit(i) != b.digit(i) {
			return a.digit(i) < b.digit(i)
		}
	}
	return false
}

func (a natural) plus(b natural) natural {
	sum := make(natural, max(len(a), len(b))+1)
	carry := uint64(0)
	for i := range sum {
		sum[i], carry = bits.Add64(a.digit(i), b.digit(i), carry)
	}
	return sum.trimmed()
}

// minus is what a has more than b, which is not greater.
func (a natural) minus(b natural) natural {
	difference := make(natural, len(a))
	borrow := uint64(0)
	for i := range difference {
		difference[i], borrow = bits.Sub64(a[i], b.digit(i), borrow)
	}
	return difference.trimmed()
}

func (a natural) times(b natural) natural {
	product := make(natural, len(a)+len(b))
	for i, x := range a {
		carry := uint64(0)
		for j, y := range b {
			hi, lo := bits.Mul64(x, y)
			sum, more := bits.Add64(product[i+j], lo, 0)
			sum, evenMore := bits.Add64(sum, carry, 0)
			product[i+j], carry = sum, hi+more+evenMore
		}
		product[i+len(b)] = carry
	}
	return product.trimmed()
}

// divided is how often b, which is not 0, goes into a, and what is left. It is found
// from the same for twice b.
func (a natural) divided(b natural) (often, left natural) {
	if a.less(b) {
		return nil, a
	}
	if len(b) == 1 {
		return a.dividedByDigit(b[0])
	}
	often, left = a.divided(b.plus(b))
	often = often.plus(often)
	if left.less(b) {
		return often, left
	}
	return often.plus(naturalOf(1)), left.minus(b)
}

func (a natural) dividedByDigit(b uint64) (often, left natural) {
	often = make(natural, len(a))
	rest := uint64(0)
	for i := len(a) - 1; i >= 0; i-- {
		often[i], rest = bits.Div64(rest, a[i], b)
	}
	return often.trimmed(), naturalOf(rest)
}

// divisor is the greatest number that divides both; b is not 0.
func divisor(a, b natural) natural {
	for !b.isZero() {
		_, left := a.divided(b)
		a, b = b, left
	}
	return a
}
