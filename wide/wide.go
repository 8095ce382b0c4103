// Package wide reckons with natural numbers of 128 bits, and of 256, which come as two of 128, the high one first: layer 1.
package wide

import (
	"cmp"
	"math/bits"
)

// U is a number of 128 bits: Hi times 2^64, and Lo.
type U struct{ Hi, Lo uint64 }

// Of is the number of a word.
func Of(x uint64) U { return U{Lo: x} }

// Zero tells whether it is 0.
func (a U) Zero() bool { return a.Hi == 0 && a.Lo == 0 }

// Cmp is -1, 0 or 1: whether a is below b, the same, or above.
func Cmp(a, b U) int {
	if a.Hi != b.Hi {
		return cmp.Compare(a.Hi, b.Hi)
	}
	return cmp.Compare(a.Lo, b.Lo)
}

// Cmp2 is Cmp of two numbers of 256 bits.
func Cmp2(ah, al, bh, bl U) int {
	if c := Cmp(ah, bh); c != 0 {
		return c
	}
	return Cmp(al, bl)
}

// Add is the sum without what goes over, and that: 0 or 1.
func Add(a, b U) (U, uint64) { return addCarry(a, b, 0) }

// Add2 is Add of two numbers of 256 bits.
func Add2(ah, al, bh, bl U) (U, U, uint64) {
	low, carry := addCarry(al, bl, 0)
	high, carry := addCarry(ah, bh, carry)
	return high, low, carry
}

func addCarry(a, b U, carry uint64) (U, uint64) {
	low, carry := bits.Add64(a.Lo, b.Lo, carry)
	high, carry := bits.Add64(a.Hi, b.Hi, carry)
	return U{high, low}, carry
}

// Sub is the difference, gone round if it is below 0, and what it lacks: 0 or 1.
func Sub(a, b U) (U, uint64) { return subBorrow(a, b, 0) }

// Sub2 is Sub of two numbers of 256 bits.
func Sub2(ah, al, bh, bl U) (U, U, uint64) {
	low, borrow := subBorrow(al, bl, 0)
	high, borrow := subBorrow(ah, bh, borrow)
	return high, low, borrow
}

func subBorrow(a, b U, borrow uint64) (U, uint64) {
	low, borrow := bits.Sub64(a.Lo, b.Lo, borrow)
	high, borrow := bits.Sub64(a.Hi, b.Hi, borrow)
	return U{high, low}, borrow
}

// MulWord is the product by a word: what is above 128 bits, and the rest.
func MulWord(a U, x uint64) (uint64, U) {
	middle, low := bits.Mul64(a.Lo, x)
	high, rest := bits.Mul64(a.Hi, x)
	middle, carry := bits.Add64(middle, rest, 0)
	// No overflow: the whole product is below 2^192.
	return high + carry, U{middle, low}
}

// Mul is the product: its high half, its low half.
func Mul(a, b U) (U, U) {
	over, high := MulWord(a, b.Hi)
	carry, low := MulWord(a, b.Lo)
	// The product by b.Hi stands one word higher; nothing goes over 256 bits.
	h, l, _ := Add2(U{over, high.Hi}, U{high.Lo, 0}, Of(carry), low)
	return h, l
}
