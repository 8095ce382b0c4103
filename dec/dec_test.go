package dec_test

import (
	"math"
	"math/big"
	"math/rand"
	"testing"

	"casuist/api"
	"casuist/dec"
	"casuist/wide"
)

func TestP21May(t *testing.T) {
	for _, a := range edges() {
		if !a.May() {
			t.Errorf("%v is a number", a)
		}
	}
	for _, a := range noNumbers() {
		if a.May() {
			t.Errorf("%v is no number", a)
		}
	}
	for _, s := range []string{"0", "1", "-1", "1.50", nines34, "-" + nines34, "0." + nines34, nines34 + "E6111", "-" + nines34 + "E-6176"} {
		if !num(s).May() {
			t.Errorf("%s is a number", s)
		}
	}
	for _, s := range []string{ten34, "-" + ten34, "-0", "-0.00", "1E6112", "0E6112", "-1E6112", "1E-6177", "0E-6177", "-1E-6177"} {
		if num(s).May() {
			t.Errorf("%s is no number", s)
		}
	}
}

func TestP21ZeroWithEachExponent(t *testing.T) {
	for e := api.MinExp; e <= api.MaxExp; e++ {
		a := dec.Dec{Exp: e}
		if !a.May() || !a.Zero() || a.Sign() != 0 || (dec.Dec{Neg: true, Exp: e}).May() {
			t.Fatalf("0 with %d", e)
		}
		if dec.Neg(a) != a || dec.Abs(a) != a {
			t.Fatalf("0 less 0 with %d: %v, %v", e, dec.Neg(a), dec.Abs(a))
		}
		if n, ok := a.Whole(); n != 0 || !ok {
			t.Fatalf("Whole of 0 with %d: %d, %v", e, n, ok)
		}
		if dec.Cmp(a, dec.Dec{}) != 0 || dec.Cmp(a, dec.Int(1)) != -1 || dec.Cmp(a, dec.Int(-1)) != 1 {
			t.Fatalf("Cmp of 0 with %d", e)
		}
		if s, ok := dec.Add(a, dec.Dec{}); !ok || s != (dec.Dec{Exp: min(e, 0)}) {
			t.Fatalf("0 and 0 with %d: %v, %v", e, s, ok)
		}
		if s, ok := dec.Sub(dec.Dec{}, a); !ok || s != (dec.Dec{Exp: min(e, 0)}) {
			t.Fatalf("0 less 0 with %d: %v, %v", e, s, ok)
		}
		if p, ok := dec.Mul(a, dec.Int(-7)); !ok || p != a {
			t.Fatalf("-7 times 0 with %d: %v, %v", e, p, ok)
		}
	}
}

func TestP21Int(t *testing.T) {
	ints := []int{0, 1, -1, 9, 10, -10, 2500, 1<<32 - 1, -1 << 32, math.MaxInt - 1, math.MaxInt, math.MinInt, math.MinInt + 1}
	r := rand.New(rand.NewSource(1))
	for range 1000 {
		ints = append(ints, int(r.Uint64())>>r.Intn(64))
	}
	for _, x := range ints {
		a := dec.Int(x)
		want := big.NewInt(int64(x))
		if got := at(a, 0); got.Cmp(want) != 0 || a.Exp != 0 || !a.May() {
			t.Errorf("Int(%d) = %v", x, a)
		}
		if n, ok := a.Whole(); n != x || !ok {
			t.Errorf("Int(%d).Whole() = %d, %v", x, n, ok)
		}
	}
	if a := dec.Int(math.MinInt); a != (dec.Dec{Neg: true, Coef: wide.Of(1 << 63)}) {
		t.Error("the least int", a)
	}
	if a := dec.Int(math.MaxInt); a != (dec.Dec{Coef: wide.Of(1<<63 - 1)}) {
		t.Error("the greatest int", a)
	}
}

func TestP21ZeroAndSign(t *testing.T) {
	for s, want := range map[string]int{"0": 0, "0.00": 0, "0E6111": 0, "1": 1, "-1": -1, "1E-6176": 1, "-1E-6176": -1, "0.5": 1, "-0.5": -1, nines34 + "E6111": 1, "-" + nines34 + "E6111": -1} {
		if got := num(s).Sign(); got != want {
			t.Errorf("%s: Sign %d", s, got)
		}
		if got := num(s).Zero(); got != (want == 0) {
			t.Errorf("%s: Zero %v", s, got)
		}
	}
	if high := (dec.Dec{Coef: wide.U{Hi: 1}}); high.Zero() || high.Sign() != 1 {
		t.Error("a coefficient whose low word is 0")
	}
	for _, a := range edges() {
		if want := bigOf(a.Coef).Sign() == 0; a.Zero() != want {
			t.Errorf("%v.Zero() = %v", a, a.Zero())
		}
		if want := at(a, a.Exp).Sign(); a.Sign() != want {
			t.Errorf("%v.Sign() = %d", a, a.Sign())
		}
	}
}

func TestP21NegAndAbs(t *testing.T) {
	for _, c := range []struct{ a, neg, abs string }{
		{"1", "-1", "1"},
		{"-1", "1", "1"},
		{"1.50", "-1.50", "1.50"},
		{"-1.50", "1.50", "1.50"},
		{"0", "0", "0"},
		{"0.00", "0.00", "0.00"},
		{"0E6111", "0E6111", "0E6111"},
		{"-" + nines34 + "E-6176", nines34 + "E-6176", nines34 + "E-6176"},
		{nines34 + "E6111", "-" + nines34 + "E6111", nines34 + "E6111"},
	} {
		if got := dec.Neg(num(c.a)); got != num(c.neg) {
			t.Errorf("Neg(%s) = %v", c.a, got)
		}
		if got := dec.Abs(num(c.a)); got != num(c.abs) {
			t.Errorf("Abs(%s) = %v", c.a, got)
		}
	}
	for _, a := range edges() {
		neg, abs := dec.Neg(a), dec.Abs(a)
		if neg.Coef != a.Coef || neg.Exp != a.Exp || neg.Sign() != -a.Sign() || !neg.May() {
			t.Errorf("Neg(%v) = %v", a, neg)
		}
		if abs.Coef != a.Coef || abs.Exp != a.Exp || abs.Neg {
			t.Errorf("Abs(%v) = %v", a, abs)
		}
	}
}

func TestP21Whole(t *testing.T) {
	for s, want := range map[string]int{
		"25E2":                             2500,
		"-25E2":                            -2500,
		"25.0":                             25,
		"-25.00":                           -25,
		"0":                                0,
		"0.0":                              0,
		"0E-6176":                          0,
		"0E6111":                           0,
		"1E18":                             1e18,
		"-9E18":                            -9e18,
		"9223372036854775807":              math.MaxInt,
		"-9223372036854775808":             math.MinInt,
		"9223372036854775807.000000000000": math.MaxInt,
		"-9223372036854775808.00000000000": math.MinInt,
		"922337203685477580E1":             9223372036854775800,
		ten33 + "E-33":                     1,
		"-7" + ten33[1:] + "E-33":          -7,
		"1.0":                              1,
	} {
		if n, ok := num(s).Whole(); n != want || !ok {
			t.Errorf("%s: %d, %v", s, n, ok)
		}
	}
}

func TestP21WholeOfWhatIsNone(t *testing.T) {
	for _, s := range []string{
		"2.5", "-2.5", "0.1", "-0.1", "25E-2", "1E-34", "1E-38", "1E-39", "1E-40", "1E-6176", ten33 + "E-34", nines34 + "E-34",
		"9223372036854775808", "-9223372036854775809", "9223372036854775808.0", "9223372036854775807.5", "-9223372036854775808.5",
		"18446744073709551616", "-18446744073709551616", "18446744073709551617", "36893488147419103232",
		"1E19", "-1E19", "922337203685477581E1", "1E33", "1E38", "1E39", "1E40", "-1E64", "1E6111", nines34, "-" + nines34, nines34 + "E6111",
		// 2^90 times 10^38 is a multiple of 2^128: the low half alone would be 0.
		"1237940039285380274899124224E38", "-1237940039285380274899124224E38",
	} {
		if n, ok := num(s).Whole(); n != 0 || ok {
			t.Errorf("%s: %d, %v", s, n, ok)
		}
	}
}

func TestP21WholeByTheWords(t *testing.T) {
	check := func(a dec.Dec) {
		t.Helper()
		e := min(a.Exp, 0)
		q, rest := new(big.Int).QuoRem(at(a, e), tenTo(-e), new(big.Int))
		want := 0
		is := rest.Sign() == 0 && q.IsInt64()
		if is {
			want = int(q.Int64())
		}
		if n, ok := a.Whole(); n != want || ok != is {
			t.Errorf("%v.Whole() = %d, %v", a, n, ok)
		}
	}
	for _, a := range edges() {
		check(a)
	}
	r := rand.New(rand.NewSource(2))
	for range 3000 {
		a := someDec(r, 0)
		a.Exp %= 40
		check(a)
	}
}

// Nothing is promised of these but that the calls end.
func TestP21WhatIsNoNumberEnds(t *testing.T) {
	for _, a := range noNumbers() {
		a.Zero()
		a.Sign()
		a.Whole()
		dec.Neg(a)
		dec.Abs(a)
		for _, b := range append(noNumbers(), num("1"), num("-1"), num("0"), num(nines34+"E6111"), num("1E-6176")) {
			for _, pair := range [][2]dec.Dec{{a, b}, {b, a}} {
				dec.Add(pair[0], pair[1])
				dec.Sub(pair[0], pair[1])
				dec.Mul(pair[0], pair[1])
				dec.Cmp(pair[0], pair[1])
			}
		}
	}
}
