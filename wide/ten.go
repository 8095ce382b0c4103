package wide

import "math/bits"

// MostTen is the greatest power of ten that is a number of 128 bits.
const MostTen = 38

// mostWordTen is the greatest power of ten that is a word, and wordTen are these powers.
const mostWordTen = 19

var wordTen = [mostWordTen + 1]uint64{
	1,
	10,
	100,
	1_000,
	10_000,
	100_000,
	1_000_000,
	10_000_000,
	100_000_000,
	1_000_000_000,
	10_000_000_000,
	100_000_000_000,
	1_000_000_000_000,
	10_000_000_000_000,
	100_000_000_000_000,
	1_000_000_000_000_000,
	10_000_000_000_000_000,
	100_000_000_000_000_000,
	1_000_000_000_000_000_000,
	10_000_000_000_000_000_000,
}

// Ten is 10 to the k; false, if k is not 0 to MostTen.
func Ten(k int) (U, bool) {
	if k < 0 || k > MostTen {
		return U{}, false
	}
	if k <= mostWordTen {
		return Of(wordTen[k]), true
	}
	_, p := MulWord(Of(wordTen[mostWordTen]), wordTen[k-mostWordTen])
	return p, true
}

// Digits is how many decimal digits a number of 256 bits has; 0 of 0.
func Digits(hi, lo U) int {
	n := 0
	for !hi.Zero() {
		hi, lo, _, _ = DivWord(hi, lo, wordTen[mostWordTen])
		n += mostWordTen
	}
	return n + digits(lo)
}

func digits(a U) int {
	// 1233 by 4096 is log 2 so nearly that, up to 128 bits, k is at most 1 too low.
	k := bitLength(a) * 1233 >> 12
	if p, _ := Ten(k); Cmp(a, p) >= 0 {
		return k + 1
	}
	return k
}

func bitLength(a U) int {
	if a.Hi != 0 {
		return 64 + bits.Len64(a.Hi)
	}
	return bits.Len64(a.Lo)
}

// Root is the greatest number whose square is at most hi and lo together, and whether the square is all of that.
func Root(hi, lo U) (U, bool) {
	var root U
	for bit := (U{Hi: 1 << 63}); !bit.Zero(); bit = right(bit, 1) {
		next, _ := Add(root, bit)
		if cmpSquare(next, hi, lo) <= 0 {
			root = next
		}
	}
	return root, cmpSquare(root, hi, lo) == 0
}

// cmpSquare holds the square of a against hi and lo together.
func cmpSquare(a, hi, lo U) int {
	h, l := Mul(a, a)
	return Cmp2(h, l, hi, lo)
}
