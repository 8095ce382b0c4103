package round_test

import (
	"math/rand"
	"testing"

	"casuist/dec"
	"casuist/quot"
	"casuist/round"
	"casuist/wide"
)

type rest struct{ a, b, want string }

func checkRests(t *testing.T, list []rest) {
	t.Helper()
	for _, c := range list {
		got, ok := round.Modulo(num(c.a), num(c.b))
		answered(t, "Modulo("+c.a+", "+c.b+")", got, ok, c.want)
	}
}

// What is left has the sign of what it was divided by.
func TestP43Modulo(t *testing.T) {
	checkRests(t, []rest{
		{"12", "5", "2"},
		{"-12", "5", "3"},
		{"12", "-5", "-3"},
		{"-12", "-5", "-2"},
		{"10", "5", "0"},
		{"-10", "5", "0"},
		{"10", "-5", "0"},
		{"10.1", "4.5", "1.1"},
		{"-10.1", "4.5", "3.4"},
		{"10.1", "-4.5", "-3.4"},
		{"-10.1", "-4.5", "-1.1"},
		{"7.50", "2.5", "0.00"},
		{"1", "3", "1"},
		{"-1", "3", "2"},
		{"1", "-3", "-2"},
		{"0.3", "0.1", "0.0"},
		{"1", "0.3", "0.1"},
		{"5", "0.30", "0.20"},
		{"5.00", "3", "2.00"},
		{"1E3", "7", "6"},
		{"1E3", "3E2", "1E2"},
		{"0", "5", "0"},
		{"0.00", "5", "0.00"},
		{"0", "-5.0", "0"},
		{"0E3", "5", "0E3"},
		{nines34, "7", "3"},
		{nines34, nines34, "0"},
		{"9999999999999999999999999999999998", nines34, "9999999999999999999999999999999998"},
	})
}

// The steps are those of the chapter, each rounded: the floor is of the rounded quotient.
func TestP43ModuloOfRoundedQuotients(t *testing.T) {
	checkRests(t, []rest{
		// by 2 this is half-way between two numbers of 34 digits, and the even one is above
		{"2000000000000000000000000000000003", "2", "-1"},
		{nines34, "2", "-1"},
		{"2000000000000000000000000000000001", "2", "1"},
		{"-2000000000000000000000000000000003", "2", "1"},
		// 3333333333333333333333333333333333E6 is the quotient
		{"1E40", "3", "1E6"},
		{"-1E40", "3", "-1E6"},
		// the product has 35 digits, and is rounded to 34
		{"2E40", "3", "0E7"},
		{"1E40", "7", "0E7"},
		// a nearly 0, but on the other side: 1 less that little, which is 1 of 34 digits
		{"-1E-50", "1", ten33 + "E-33"},
		{"1E-50", "-1", "-" + ten33 + "E-33"},
		{"-1E-34", "1", nines34 + "E-34"},
		{"1E-50", "1", "1E-50"},
		{"-1E-6176", "1", ten33 + "E-33"},
		// so near to 0 that the quotient is rounded to 0, which has no sign
		{"-1E-6176", "1E1", "-1E-6176"},
		{"-1E-6176", "3E6111", "-1E-6176"},
		{"1E-6176", "-1E6111", "1E-6176"},
		{"1E-6176", "1E6111", "1E-6176"},
		{"1E6111", "1E6111", "0E6111"},
		{"1E6111", "2", "0E6110"},
	})
}

func TestP43ModuloOfWhatHasNone(t *testing.T) {
	checkRests(t, []rest{
		{"1", "0", ""},
		{"0", "0", ""},
		{"-1.5", "0.00", ""},
		{"1E6111", "0E-6176", ""},
		{nines34 + "E6111", "0E6111", ""},
		// the quotient is too great
		{"1E6111", "1E-34", ""},
		{"-1E6111", "1E-34", ""},
		{nines34 + "E6111", "1E-6176", ""},
		{"1E6111", "-1E-6176", ""},
		// the product is
		{"-" + nines34 + "E6111", "2E6111", ""},
		{nines34 + "E6111", "-2E6111", ""},
		{"-95E6143", "9E6144", ""},
		{"9E6144", "-8E6144", ""},
	})
}

func TestP43ModuloByTheWords(t *testing.T) {
	steps := func(a, b dec.Dec) (dec.Dec, bool) {
		q, ok := quot.Div(a, b)
		if !ok {
			return dec.Dec{}, false
		}
		p, ok := dec.Mul(b, wholeModel(q, dec.Floor))
		if !ok {
			return dec.Dec{}, false
		}
		return dec.Sub(a, p)
	}
	check := func(a, b dec.Dec) {
		t.Helper()
		got, ok := round.Modulo(a, b)
		want, may := steps(a, b)
		if got != want || ok != may {
			t.Errorf("Modulo(%s, %s) = %s, %v, not %s, %v", told(a), told(b), told(got), ok, told(want), may)
		}
		if !got.May() {
			t.Errorf("Modulo(%s, %s) = %s, which is no number", told(a), told(b), told(got))
		}
	}
	r := rand.New(rand.NewSource(43))
	for range 4000 {
		check(someDec(r, 0, 5), someDec(r, 0, 5))
		check(someDec(r, 0, 40), someDec(r, 0, 40))
		check(someDec(r, 6100, 40), someDec(r, 6100, 40))
		check(someDec(r, -6150, 40), someDec(r, -6150, 40))
	}
	some := edges()
	for i, a := range some {
		for j := i % 7; j < len(some); j += 7 {
			check(a, some[j])
		}
	}
}

// Of whole numbers of few digits nothing is rounded: what is left is that of ints, rounded down.
func TestP43ModuloOfInts(t *testing.T) {
	for a := -60; a <= 60; a++ {
		for b := -12; b <= 12; b++ {
			got, ok := round.Modulo(dec.Int(a), dec.Int(b))
			if b == 0 {
				if got != (dec.Dec{}) || ok {
					t.Errorf("Modulo(%d, 0) = %s, %v", a, told(got), ok)
				}
				continue
			}
			left := a % b
			if left != 0 && (left < 0) != (b < 0) {
				left += b
			}
			if got != dec.Int(left) || !ok {
				t.Errorf("Modulo(%d, %d) = %s, %v", a, b, told(got), ok)
			}
		}
	}
}

func TestP43EvenAndOdd(t *testing.T) {
	const even, odd, neither = "even", "odd", "neither"
	for s, want := range map[string]string{
		"0": even, "0.0": even, "0E-6176": even, "0E6111": even, "0E1": even,
		"1": odd, "-1": odd, "2": even, "-2": even, "7": odd, "10": even, "15": odd,
		"2.0": even, "1.0": odd, "-3.000": odd, "-4.000": even, "10.0": even, "110E-1": odd, "120E-1": even,
		"1.5": neither, "-1.5": neither, "2.5": neither, "0.5": neither, "2.2": neither, "-2.01": neither, "0.2": neither,
		"7E1": even, "-7E1": even, "1E1": even, "1E6111": even, nines34 + "E6111": even, nines34 + "E1": even,
		nines34: odd, "-" + nines34: odd, "9999999999999999999999999999999998": even,
		ten33: even, ten33 + "E-33": odd, ten33 + "E-32": even, "2" + ten33[1:] + "E-33": even, ten33 + "E-34": neither,
		nines34 + "E-1": neither, "99999999999999999999999999999999.90": neither, nines33 + ".0": odd,
		"1E-6176": neither, "2E-6176": neither, "-2E-1": neither, "1E-38": neither, "1E-39": neither, "20E-40": neither,
		// the low word of these is even, odd
		"18446744073709551616": even, "18446744073709551617": odd, "184467440737095516160E-1": even, "184467440737095516170E-1": odd,
	} {
		a := num(s)
		if got := round.Even(a); got != (want == even) {
			t.Errorf("Even(%s) = %v", s, got)
		}
		if got := round.Odd(a); got != (want == odd) {
			t.Errorf("Odd(%s) = %v", s, got)
		}
	}
}

func TestP43EvenAndOddByTheWords(t *testing.T) {
	check := func(a dec.Dec) {
		t.Helper()
		whole, two := isMultiple(a, 1), isMultiple(a, 2)
		if got := round.Even(a); got != (whole && two) {
			t.Errorf("Even(%s) = %v", told(a), got)
		}
		if got := round.Odd(a); got != (whole && !two) {
			t.Errorf("Odd(%s) = %v", told(a), got)
		}
	}
	for _, a := range edges() {
		check(a)
	}
	r := rand.New(rand.NewSource(44))
	for range 4000 {
		check(someDec(r, -5, 6))
		check(someDec(r, 0, 40))
		// Whole ones with places that are noughts.
		n := r.Intn(20)
		power, _ := wide.Ten(n)
		_, c := wide.Mul(wide.Of(uint64(r.Intn(1e9))), power)
		check(dec.Dec{Coef: c, Exp: -n})
	}
}

func TestW1ModuloOfNoNumbers(t *testing.T) {
	few := []dec.Dec{num("0"), num("1"), num("-25E-3"), num(nines34 + "E6111"), num("1E-6176")}
	for _, a := range noNumbers() {
		round.Even(a)
		round.Odd(a)
		for _, b := range append(noNumbers(), few...) {
			round.Modulo(a, b)
			round.Modulo(b, a)
		}
	}
}
