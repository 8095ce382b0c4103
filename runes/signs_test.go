package runes_test

import (
	"math"
	"strings"
	"testing"
	"unicode"

	"casuist/runes"
)

func checkSign(t *testing.T, r rune, letter, digit, space bool) {
	t.Helper()
	if got := runes.Letter(r); got != letter {
		t.Errorf("Letter(%d) = %v", r, got)
	}
	if got := runes.Digit(r); got != digit {
		t.Errorf("Digit(%d) = %v", r, got)
	}
	if got := runes.Space(r); got != space {
		t.Errorf("Space(%d) = %v", r, got)
	}
}

func TestP154Signs(t *testing.T) {
	for _, r := range smalls + greats + "_" {
		checkSign(t, r, true, false, false)
	}
	for _, r := range "0123456789" {
		checkSign(t, r, false, true, false)
	}
	for _, r := range " \t\n\r" {
		checkSign(t, r, false, false, true)
	}
	for _, r := range "`{@[/:^!\"#$%&'()*+,-.;<=>?\\]|}~" {
		checkSign(t, r, false, false, false)
	}
	// Of the signs that steer a line's end and a return, a tab alone are spaces.
	for _, r := range []rune{0, 1, 7, 8, 11, 12, 14, 27, 28, 29, 30, 31, 33, 126, 127} {
		checkSign(t, r, false, false, false)
	}
}

func TestP154SignsBeyond(t *testing.T) {
	// Digits and spaces of other scripts are letters here, as all is from 128 on: also what is no rune.
	for _, r := range []rune{128, 129, 0x85, 0xa0, 0xb2, 0xd7, 0xe9, 0xff, 0x100, 0x120, 0x130, 0x161, 0x663, 0x1680, 0x2003, 0x2028, 0x202f, 0x3000, 0xd7ff, 0xd800, 0xdfff, 0xe000, 0xfeff, 0xfffd, 0xffff, 0xff10, 0x10000, 0x10030, 0x10ffff, 0x110000, 0x110030, math.MaxInt32 - 1, math.MaxInt32} {
		checkSign(t, r, true, false, false)
	}
	for _, r := range []rune{-1, -2, -32, -97, -128, -129, -256 + 'a', -256 + '0', -256 + ' ', math.MinInt32, math.MinInt32 + 'a', math.MinInt32 + '0', math.MinInt32 + ' '} {
		checkSign(t, r, false, false, false)
	}
}

func TestP154EachRune(t *testing.T) {
	for r := rune(-1000); r <= unicode.MaxRune+1000; r++ {
		letter := r >= 128 || r >= 0 && strings.IndexByte(smalls+greats+"_", byte(r)) >= 0
		digit := r >= 0 && r < 128 && strings.IndexByte("0123456789", byte(r)) >= 0
		space := r == 9 || r == 10 || r == 13 || r == 32
		if runes.Letter(r) != letter || runes.Digit(r) != digit || runes.Space(r) != space {
			t.Fatalf("of %d Letter is %v, Digit %v, Space %v", r, runes.Letter(r), runes.Digit(r), runes.Space(r))
		}
	}
}
