package numeral_test

import (
	"math/rand"
	"testing"

	"casuist/dec"
	"casuist/numeral"
)

func TestP52Shape(t *testing.T) {
	for _, s := range []string{
		"0", "7", "007", "1234567890", nines34, noughts(5000), nines34 + nines34,
		"1.5", "0.0", "00.00", "12.345", nines34 + "." + nines34, "1." + noughts(5000),
		".5", ".0", "." + nines34, "." + noughts(5000),
		"1E0", "1E5", "1E05", "1E000005", "1E123456", "1E999999",
		"1E+5", "1E-5", "1E+0", "1E-0", "1E+123456", "1E-999999", "1E-000000",
		"1.5E3", "1.5E+3", "1.5E-3", ".5E1", ".5E+12", ".5E-123456", "0E5", "0.0E-5", noughts(5000) + "E1",
	} {
		if !numeral.Shape(s) {
			t.Errorf("%s has the shape", short(s))
		}
		checkAll(t, s)
	}
}

// noShapes are texts that have not a number's form, with or without a - ahead.
func noShapes() []string {
	return []string{
		"", "-", "+", "--1", "+1", "-+1", "+-1", "1-", "1+", "1-1", "1+1",
		".", "..", "1.", "12.", ".1.", "1..2", "1.2.3", ".1.2", "..1", "1.E5", ".E5", "1.-5", "1.+5",
		"E", "E5", "+E5", "1E", "1E+", "1E-", "1.5E", ".5E", ".5E+", "1E++5", "1E--5", "1E+-5", "1E-+5", "1E5+", "1E5-", "1E+5-",
		"1EE5", "1E5E", "1E5E5", "1E.", "1E.5", "1E5.", "1E5.0", "1E+.5", "1E-5.",
		"1E1234567", "1E0000000", "1E+1234567", "1E-1234567", "1E0000001", "1.5E0000001", ".5E-0000001", "1E" + noughts(5000),
		"1e5", "1.5e3", "1e", "e", "1D5", "0x10", "0b1", "1_000", "1,5", "1,000", "1'000", "1 000", "1/2", "1:2",
		" ", " 1", "1 ", "\t1", "1\n", "1\r", "\n", "1 E5", "1E 5", "1E5 ", "1. 5", "1 .5", "\u00a01", "1\u2003", "\ufeff1",
		"a", "one", "1a", "a1", "NaN", "Inf", "Infinity", "null", "true", "1n", "1f", "1%", "€1", "$1", "é",
		"\u0661", "\u0967", "\uff11", "\U0001d7d9", "1\u0661", "\u06611", "1.\u0661", "1E\u0661", "1E1\u0661", "\u00b2", "\u2460", "\u2167", "1\uff0e5", "1\u066b5", "1\u30fb5", "\u22121", "\u20131", "1E\u22125", "1\uff255", "1\u04155",
		"\x00", "1\x00", "\x001", "1E5\x00", "\xff", "\x80", "1\x80", "\xb1", "1\xb1", "\xc3", "1E\xff", "1.\xff", "\xed\xa0\x80", "\xf0\x9d\x9f", "\xc0\xb1", "\xe0\x80\xb1", "\ufffd", "1\ufffd",
	}
}

func TestP52WhatHasNotTheShape(t *testing.T) {
	for _, s := range noShapes() {
		if numeral.Shape(s) {
			t.Errorf("%q has not the shape", s)
		}
		if d, ok := numeral.Read(s); d != (dec.Dec{}) || ok {
			t.Errorf("Read(%q) = %s, %v", s, told(d), ok)
		}
		for _, signed := range []string{s, "-" + s} {
			if d, ok := numeral.Signed(signed); d != (dec.Dec{}) || ok {
				t.Errorf("Signed(%q) = %s, %v", signed, told(d), ok)
			}
			if numeral.Plain(signed) {
				t.Errorf("Plain(%q)", signed)
			}
			checkAll(t, signed)
		}
	}
}

// A sign too many, wherever it stands.
func TestP52WrongSignsWithin(t *testing.T) {
	wrong := []string{" ", "e", "D", "_", ",", "'", "/", ":", "x", "\x00", "\n", "\u0660", "\uff10", "\U0001d7d8", "\u2212", "\uff0b", "\ufffd", "\x80", "\xb0", "\xff", "\xc3"}
	for _, good := range []string{"0", "12", "1.25", ".5", "12E3", "1.25E+12", ".5E-7"} {
		for at := 0; at <= len(good); at++ {
			for _, sign := range wrong {
				s := good[:at] + sign + good[at:]
				if numeral.Shape(s) {
					t.Errorf("Shape(%q)", s)
				}
				if d, ok := numeral.Read(s); d != (dec.Dec{}) || ok {
					t.Errorf("Read(%q) = %s, %v", s, told(d), ok)
				}
				if d, ok := numeral.Signed("-" + s); d != (dec.Dec{}) || ok {
					t.Errorf("Signed(%q) = %s, %v", "-"+s, told(d), ok)
				}
				if numeral.Plain(s) {
					t.Errorf("Plain(%q)", s)
				}
			}
		}
	}
}

// eachText hands out all texts of some signs up to a length.
func eachText(signs []string, length int, f func(string)) {
	var grow func(string, int)
	grow = func(s string, left int) {
		f(s)
		if left > 0 {
			for _, sign := range signs {
				grow(s+sign, left-1)
			}
		}
	}
	grow("", length)
}

func TestP52AllShortTexts(t *testing.T) {
	eachText([]string{"0", "7", ".", "E", "+", "-"}, 6, func(s string) { checkAll(t, s) })
	eachText([]string{"0", "1", ".", "E", "-", "\xff", "e", " ", "\u0661"}, 4, func(s string) { checkAll(t, s) })
}

// Any bytes: the calls end, and tell what the words say.
func TestW1AnyBytes(t *testing.T) {
	r := rand.New(rand.NewSource(1))
	for range 20000 {
		b := make([]byte, r.Intn(12))
		for i := range b {
			b[i] = "0123456789.E+-0159.E-e \xff\xc3"[r.Intn(25)]
			if r.Intn(20) == 0 {
				b[i] = byte(r.Intn(256))
			}
		}
		checkAll(t, string(b))
	}
}
