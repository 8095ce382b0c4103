package quot_test

import (
	"math/big"
	"math/rand"
	"strings"
	"testing"

	"casuist/api"
	"casuist/dec"
	"casuist/quot"
)

func checkRoots(t *testing.T, all [][2]string) {
	t.Helper()
	for _, c := range all {
		got, ok := quot.Root(num(c[0]))
		answered(t, "Root("+c[0]+")", got, ok, c[1])
	}
}

// An exact root has half of the exponent, rounded down: to the lower one below 0 too.
func TestP33RootExact(t *testing.T) {
	checkRoots(t, [][2]string{
		{"100", "10"},
		{"2.25", "1.5"},
		{"1", "1"},
		{"4", "2"},
		{"1.00", "1.0"},
		{"4.0000", "2.00"},
		{"1E2", "1E1"},
		{"9E10", "3E5"},
		{"0.04", "0.2"},
		{"0.25", "0.5"},
		{"9E-10", "3E-5"},
		// of odd exponents
		{"10E1", "10"},
		{"10E-1", "10E-1"},
		{"1.000", "1.00"},
		{"40E-1", "20E-1"},
		{"90E3", "30E1"},
		{"360E-3", "60E-2"},
		{"1000E-3", "100E-2"},
		{"1000E3", "100E1"},
		{"0.490", "0.70"},
		// at the edges
		{"1E-6176", "1E-3088"},
		{"10E-6175", "10E-3088"},
		{"1E6110", "1E3055"},
		{"10E6111", "10E3055"},
		{"9999999999999999800000000000000001", "99999999999999999"},
		{"9999999999999999800000000000000001E6110", "99999999999999999E3055"},
		{"1000000000000000000000000000000000E1", "100000000000000000"},
		{"1000000000000000000000000000000000E-1", "100000000000000000E-1"},
	})
}

// A root without an end has 34 digits, noughts at its end among them.
func TestP33RootRounds(t *testing.T) {
	checkRoots(t, [][2]string{
		{"2", "1.414213562373095048801688724209698"},
		{"2.00", "1.414213562373095048801688724209698"},
		{"3", "1.732050807568877293527446341505872"},
		{"5", "2.236067977499789696409173668731276"},
		{"20", "4.472135954999579392818347337462552"},
		{"0.2", "4472135954999579392818347337462552E-34"},
		{"2.5", "1.581138830084189665999446772216359"},
		{"0.025", "1581138830084189665999446772216359E-34"},
		{"10", "3.162277660168379331998893544432719"},
		{"1E1", "3.162277660168379331998893544432719"},
		{"10.0", "3.162277660168379331998893544432719"},
		{"0.1", "3162277660168379331998893544432719E-34"},
		{"1E3", "31.62277660168379331998893544432719"},
		{"400E-1", "6324555320336758663997787088865437E-33"},
		{"4E-1", "6324555320336758663997787088865437E-34"},
		{"12345678901234567890", "3513641828820144253093654172555782E-24"},
		{"1E-6175", "3162277660168379331998893544432719E-3121"},
		{"3E-6175", "5477225575051661134569697828008021E-3121"},
		{"1E6111", "3162277660168379331998893544432719E3022"},
		{"8E6111", "8944271909999158785636694674925105E3022"},
		{nines34 + "E6111", "3162277660168379331998893544432718E3039"},
		{nines34 + "E1", "3162277660168379331998893544432718E-16"},
		{"10.00000000000000000000000000000001", "3162277660168379331998893544432720E-33"},
	})
}

// These lie so near to half-way that 35 digits of them, or 60, end with a 5 and noughts, or nines.
func TestP33RootBesideHalfWay(t *testing.T) {
	checkRoots(t, [][2]string{
		{"0.9999999999999999999999999999999999", nines34 + "E-34"},
		{"0.9999999999999999999999999999999997", "9999999999999999999999999999999998E-34"},
		{"1.000000000000000000000000000000001", ten33 + "E-33"},
		{"1.000000000000000000000000000000002", "1000000000000000000000000000000001E-33"},
		{"1.000000000000000000000000000000003", "1000000000000000000000000000000001E-33"},
		{nines34, nines34 + "E-17"},
		{"9999999999999999999999999999999998", nines34 + "E-17"},
		{"9999999999999999999999999999999997", "9999999999999999999999999999999998E-17"},
	})
}

func TestP33RootOfNought(t *testing.T) {
	checkRoots(t, [][2]string{
		{"0", "0"},
		{"0E2", "0E1"},
		{"0E1", "0"},
		{"0E3", "0E1"},
		{"0E-1", "0E-1"},
		{"0.00", "0.0"},
		{"0.000", "0.00"},
		{"0E6111", "0E3055"},
		{"0E6110", "0E3055"},
		{"0E-6176", "0E-3088"},
		{"0E-6175", "0E-3088"},
	})
}

func TestP33RootBelowNought(t *testing.T) {
	checkRoots(t, [][2]string{
		{"-1", ""},
		{"-4", ""},
		{"-0.25", ""},
		{"-2E1", ""},
		{"-1E-6176", ""},
		{"-" + nines34 + "E6111", ""},
	})
}

// rightRoot tells whether a root is what the promise says of it: it is held against a by its square, times 4, and by that of the half steps beside it.
func rightRoot(a, root dec.Dec) bool {
	half := (a.Exp - a.Exp&1) / 2
	size := new(big.Int).Mul(bigOf(a.Coef), tenTo(a.Exp&1))
	whole := new(big.Int).Sqrt(size)
	if new(big.Int).Mul(whole, whole).Cmp(size) == 0 {
		return root == dec.Dec{Coef: uOf(whole), Exp: half}
	}
	if root.Neg || len(root.Coef.Text()) != api.MaxDigits || root.Exp > half {
		return false
	}
	size.Mul(size, tenTo(2*(half-root.Exp))).Lsh(size, 2)
	twice := new(big.Int).Lsh(bigOf(root.Coef), 1)
	below := new(big.Int).Sub(twice, big.NewInt(1))
	above := new(big.Int).Add(twice, big.NewInt(1))
	return below.Mul(below, below).Cmp(size) < 0 && above.Mul(above, above).Cmp(size) > 0
}

func TestP33RootIsTheNearest(t *testing.T) {
	check := func(a dec.Dec) {
		got, ok := quot.Root(a)
		if a.Neg {
			if ok || got != (dec.Dec{}) {
				t.Errorf("Root(%s) = %s, %v", told(a), told(got), ok)
			}
			return
		}
		if !ok || !rightRoot(a, got) {
			t.Errorf("Root(%s) = %s, %v", told(a), told(got), ok)
		}
	}
	for _, a := range edges() {
		check(a)
	}
	r := rand.New(rand.NewSource(33))
	for range 4000 {
		check(someDec(r, 0))
		check(dec.Abs(someDec(r, r.Intn(12000)-6000)))
		// Squares, and what is beside them, of 17 digits and less, with exponents of both kinds.
		root := dec.Dec{Coef: coef("0" + digitRun(r, r.Intn(18))), Exp: r.Intn(41) - 20}
		square, _ := dec.Mul(root, root)
		check(square)
		square.Coef.Lo++
		check(square)
		square.Exp++
		check(square)
	}
	for n := range api.MaxDigits {
		for e := -3; e <= 3; e++ {
			for _, first := range []string{"1", "4", "9"} {
				check(dec.Dec{Coef: coef(first + strings.Repeat("0", n)), Exp: e})
			}
		}
	}
}

func TestW1RootOfNoNumbers(t *testing.T) {
	for _, a := range noNumbers() {
		quot.Root(a)
	}
}
