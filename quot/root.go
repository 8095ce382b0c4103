package quot

import (
	"casuist/api"
	"casuist/dec"
	"casuist/wide"
)

// Root is the square root; false, if a is below 0.
func Root(a dec.Dec) (dec.Dec, bool) {
	if a.Sign() < 0 {
		return dec.Dec{}, false
	}
	c, half := evenly(a)
	// A whole number's root is whole or has no end, so what is exact is so with half of the exponent.
	root, exact := wide.Root(wide.U{}, c)
	if exact {
		return dec.Dec{Coef: root, Exp: half}, true
	}
	return longRoot(c, half)
}

// evenly is a number's size as a coefficient, of 35 digits at most, and half of an even exponent.
func evenly(a dec.Dec) (wide.U, int) {
	c := a.Coef
	if a.Exp&1 == 1 {
		c = withNoughts(c, 1)
	}
	// A shift, and not a division, rounds down below 0 too.
	return c, a.Exp >> 1
}

// longRoot is the root of what evenly tells, where that has no end.
func longRoot(c wide.U, half int) (dec.Dec, bool) {
	// Each two noughts behind the coefficient are a digit more of the root.
	places := enough - (wide.Digits(wide.U{}, c)+1)/2
	// What the first noughts make is of 128 bits, and all of them together are too many for that.
	c = withNoughts(c, 2*places-api.MaxDigits)
	power, _ := wide.Ten(api.MaxDigits)
	root, _ := wide.Root(wide.Mul(c, power))
	return dec.Fit(dec.Wide{Lo: root, Exp: half - places, More: true}, dec.HalfEven)
}
