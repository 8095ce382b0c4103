package dec

import (
	"cmp"

	"casuist/wide"
)

// Add is the sum; false, if it is too great.
func Add(a, b Dec) (Dec, bool) { return Fit(sum(a, b), HalfEven) }

// Sub is a - b.
func Sub(a, b Dec) (Dec, bool) { return Add(a, Neg(b)) }

// Mul is the product; false, if it is too great.
func Mul(a, b Dec) (Dec, bool) {
	w := Wide{Neg: a.Neg != b.Neg, Exp: a.Exp + b.Exp}
	w.Hi, w.Lo = wide.Mul(a.Coef, b.Coef)
	return Fit(w, HalfEven)
}

// sum is a + b with the less one of both exponents, or with so many digits that Fit answers the same.
func sum(a, b Dec) Wide {
	if a.Exp < b.Exp {
		a, b = b, a
	}
	low := Wide{Neg: b.Neg, Lo: b.Coef, Exp: b.Exp}
	if a.Zero() {
		return low
	}
	// With 38 noughts there are 38 digits or more even of a difference, so what b has below them tells no more than that something is there.
	noughts := min(a.Exp-b.Exp, wide.MostTen)
	power, _ := wide.Ten(noughts)
	high := Wide{Neg: a.Neg, Exp: a.Exp - noughts}
	high.Hi, high.Lo = wide.Mul(a.Coef, power)
	var left remnant
	low.Hi, low.Lo, left = drop(low, high.Exp-b.Exp)
	low.Exp, low.More = high.Exp, !left.nothing()
	if a.Neg == b.Neg {
		return together(high, low)
	}
	if wide.Cmp2(high.Hi, high.Lo, low.Hi, low.Lo) < 0 {
		return apart(low, high)
	}
	return apart(high, low)
}

// together is the size of a and that of b, of one exponent, with a's sign.
func together(a, b Wide) Wide {
	a.Hi, a.Lo, _ = wide.Add2(a.Hi, a.Lo, b.Hi, b.Lo)
	a.More = b.More
	return a
}

// apart is the size of a less that of b, which is not greater, of one exponent, with a's sign.
func apart(a, b Wide) Wide {
	a.Hi, a.Lo, _ = wide.Sub2(a.Hi, a.Lo, b.Hi, b.Lo)
	if b.More {
		// A little less is one less, and a little more than that.
		a.Hi, a.Lo, _ = wide.Sub2(a.Hi, a.Lo, wide.U{}, wide.Of(1))
	}
	a.More = b.More
	return a
}

// Cmp is -1, 0 or 1: whether a is below b, the same, or above.
func Cmp(a, b Dec) int {
	sign := a.Sign()
	if sign != b.Sign() {
		return cmp.Compare(sign, b.Sign())
	}
	// Below 0 the greater size is the lower number; of two that are 0 no size counts.
	return sign * cmpSizes(a, b)
}

// cmpSizes holds the sizes of two numbers that are not 0 against each other.
func cmpSizes(a, b Dec) int {
	if a.Exp < b.Exp {
		return -cmpSizes(b, a)
	}
	power, ok := wide.Ten(a.Exp - b.Exp)
	if !ok {
		// So many noughts are more than a coefficient has digits.
		return 1
	}
	hi, lo := wide.Mul(a.Coef, power)
	return wide.Cmp2(hi, lo, wide.U{}, b.Coef)
}
