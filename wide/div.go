package wide

import "math/bits"

// Div is hi and lo together by d, rounded down, and what is left; false, if d is 0, or that is no number of 128 bits.
func Div(hi, lo, d U) (U, U, bool) {
	// The quotient is of 128 bits just if hi is below d, which it never is of a d of 0.
	if Cmp(hi, d) >= 0 {
		return U{}, U{}, false
	}
	if d.Hi == 0 {
		_, q, r, ok := DivWord(hi, lo, d.Lo)
		return q, Of(r), ok
	}
	// With d's highest bit set, a word of the quotient is guessed at most 2 too great.
	s := bits.LeadingZeros64(d.Hi)
	d = left(d, s)
	hi = left(hi, s)
	hi.Lo |= lo.Hi >> (64 - s)
	lo = left(lo, s)
	high, rest := divStep(hi, lo.Hi, d)
	low, rest := divStep(rest, lo.Lo, d)
	return U{high, low}, right(rest, s), true
}

// divStep is a times 2^64, and w, by d, and what is left, for an a below d and a d whose highest bit is set.
func divStep(a U, w uint64, d U) (uint64, U) {
	q := guess(a, d.Hi)
	over, product := MulWord(d, q)
	low := U{a.Lo, w}
	for over > a.Hi || over == a.Hi && Cmp(product, low) > 0 {
		var borrow uint64
		q--
		product, borrow = Sub(product, d)
		over -= borrow
	}
	rest, _ := Sub(low, product)
	return q, rest
}

// guess is a by the high word of the divisor, or the greatest word, if that is greater.
func guess(a U, high uint64) uint64 {
	if a.Hi >= high {
		return 1<<64 - 1
	}
	q, _ := bits.Div64(a.Hi, a.Lo, high)
	return q
}

// left and right move the bits by s, from 0 to 63.
func left(a U, s int) U { return U{a.Hi<<s | a.Lo>>(64-s), a.Lo << s} }

func right(a U, s int) U { return U{a.Hi >> s, a.Lo>>s | a.Hi<<(64-s)} }

// DivWord is hi and lo together by a word, rounded down, and what is left; false, if the word is 0.
func DivWord(hi, lo U, x uint64) (U, U, uint64, bool) {
	if x == 0 {
		return U{}, U{}, 0, false
	}
	var h, l U
	var rest uint64
	h.Hi, rest = bits.Div64(0, hi.Hi, x)
	h.Lo, rest = bits.Div64(rest, hi.Lo, x)
	l.Hi, rest = bits.Div64(rest, lo.Hi, x)
	l.Lo, rest = bits.Div64(rest, lo.Lo, x)
	return h, l, rest, true
}
