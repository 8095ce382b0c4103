package wide_test

import (
	"math/big"
	"strings"
	"testing"

	"casuist/wide"
)

const (
	topText  = "340282366920938463463374607431768211455"
	baseText = "340282366920938463463374607431768211456"
)

func TestP15TextAndBack(t *testing.T) {
	check := func(a wide.U) {
		text := a.Text()
		if want := bigOf(a).String(); text != want {
			t.Errorf("%v.Text() = %q, not %q", a, text, want)
		}
		if back, ok := wide.Read(text); !ok || back != a {
			t.Errorf("Read(%q) = %v, %v", text, back, ok)
		}
		if back, ok := wide.Read("000" + text); !ok || back != a {
			t.Errorf("Read(%q) = %v, %v", "000"+text, back, ok)
		}
	}
	for _, a := range append(edges(), some(12, 2000)...) {
		check(a)
	}
	about(10, func(_, lo wide.U) { check(lo) })
}

func TestP15TextEdges(t *testing.T) {
	ten19, _ := wide.Ten(19)
	ten38, _ := wide.Ten(38)
	for want, a := range map[string]wide.U{
		"0":                           zero,
		"7":                           wide.Of(7),
		"18446744073709551615":        wide.Of(most),
		"18446744073709551616":        {Hi: 1},
		"1" + strings.Repeat("0", 19): ten19,
		"1" + strings.Repeat("0", 38): ten38,
		topText:                       top,
	} {
		if got := a.Text(); got != want {
			t.Errorf("%v.Text() = %q", a, got)
		}
	}
}

func TestP15ReadEdges(t *testing.T) {
	for s, want := range map[string]wide.U{
		"0":                                 zero,
		"00":                                zero,
		"007":                               wide.Of(7),
		strings.Repeat("0", 5000):           zero,
		strings.Repeat("0", 5000) + "12":    wide.Of(12),
		topText:                             top,
		strings.Repeat("0", 5000) + topText: top,
		"0123456789":                        wide.Of(123456789),
	} {
		if got, ok := wide.Read(s); !ok || got != want {
			t.Errorf("Read(%.50q) = %v, %v", s, got, ok)
		}
	}
}

func TestP15ReadTooGreat(t *testing.T) {
	past := new(big.Int).Set(base)
	for range 20 {
		for _, s := range []string{past.String(), "00" + past.String()} {
			if got, ok := wide.Read(s); ok || got != zero {
				t.Errorf("Read(%q) = %v, %v", s, got, ok)
			}
		}
		past.Add(past, big.NewInt(1))
	}
	for _, s := range []string{baseText, baseText + "0", topText + "0", "1" + strings.Repeat("0", 39), strings.Repeat("9", 39), strings.Repeat("9", 5000)} {
		if got, ok := wide.Read(s); ok || got != zero {
			t.Errorf("Read(%.50q) = %v, %v", s, got, ok)
		}
	}
}

func TestP15ReadWrong(t *testing.T) {
	signs := []string{" ", "+", "-", ".", ",", "_", "/", ":", "a", "E", "x", "\x00", "\n", "é", "\u0660", "\uff11", "\U0001d7d9", "\ufffd", "\x80", "\xff", "\xc3", "\xed\xa0\x80"}
	for _, sign := range signs {
		for _, s := range []string{sign, sign + "1", "1" + sign, "1" + sign + "2", sign + "0", baseText + sign} {
			if got, ok := wide.Read(s); ok || got != zero {
				t.Errorf("Read(%q) = %v, %v", s, got, ok)
			}
		}
	}
	for _, s := range []string{"", "0x10", "1e3", "one", "-0", "--1", "\xb1\xb2"} {
		if got, ok := wide.Read(s); ok || got != zero {
			t.Errorf("Read(%q) = %v, %v", s, got, ok)
		}
	}
}
