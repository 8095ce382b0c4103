package wide_test

import (
	"math"
	"math/big"
	"testing"

	"casuist/wide"
)

func TestP14Ten(t *testing.T) {
	want := big.NewInt(1)
	for k := 0; k <= wide.MostTen; k++ {
		if got, ok := wide.Ten(k); !ok || got != uOf(want) {
			t.Errorf("Ten(%d) = %v, %v", k, got, ok)
		}
		want.Mul(want, big.NewInt(10))
	}
	if want.Cmp(base) < 0 {
		t.Error("MostTen is not the most")
	}
	for _, k := range []int{-1, -38, wide.MostTen + 1, 64, 256, math.MinInt, math.MaxInt} {
		if got, ok := wide.Ten(k); ok || got != zero {
			t.Errorf("Ten(%d) = %v, %v", k, got, ok)
		}
	}
}

func checkDigits(t *testing.T, hi, lo wide.U) {
	t.Helper()
	want := 0
	if x := bigOf2(hi, lo); x.Sign() != 0 {
		want = len(x.String())
	}
	if got := wide.Digits(hi, lo); got != want {
		t.Errorf("Digits(%v, %v) = %d, not %d", hi, lo, got, want)
	}
}

// about is what lies about each power of the base that is of 256 bits.
func about(powers int64, f func(hi, lo wide.U)) {
	for x := big.NewInt(1); x.BitLen() <= 256; x.Mul(x, big.NewInt(powers)) {
		for _, d := range []int64{-1, 0, 1} {
			f(uOf2(new(big.Int).Add(x, big.NewInt(d))))
		}
	}
	f(top, top)
}

func TestP14Digits(t *testing.T) {
	check := func(hi, lo wide.U) { checkDigits(t, hi, lo) }
	about(2, check)
	about(10, check)
	pairs(check)
	if n := wide.Digits(zero, zero); n != 0 {
		t.Error("of 0", n)
	}
	if n := wide.Digits(top, top); n != 78 {
		t.Error("of B^2 - 1", n)
	}
	if ten, _ := wide.Ten(38); wide.Digits(zero, ten) != 39 {
		t.Error("of 10^38")
	}
}

func checkRoot(t *testing.T, hi, lo wide.U) {
	t.Helper()
	x := bigOf2(hi, lo)
	want := new(big.Int).Sqrt(x)
	exact := new(big.Int).Mul(want, want).Cmp(x) == 0
	if got, all := wide.Root(hi, lo); got != uOf(want) || all != exact {
		t.Errorf("Root(%v, %v) = %v, %v", hi, lo, got, all)
	}
}

func TestP14Root(t *testing.T) {
	check := func(hi, lo wide.U) { checkRoot(t, hi, lo) }
	about(2, check)
	about(10, check)
	for _, hi := range few() {
		for _, lo := range edges() {
			check(hi, lo)
		}
	}
	for _, a := range append(edges(), some(11, 1000)...) {
		h, l := wide.Mul(a, a)
		check(h, l)
		below, lower, _ := wide.Sub2(h, l, zero, one)
		check(below, lower)
		above, higher, _ := wide.Add2(h, l, zero, one)
		check(above, higher)
	}
}

func TestP14RootEdges(t *testing.T) {
	for _, c := range []struct {
		hi, lo, root wide.U
		exact        bool
	}{
		{zero, zero, zero, true},
		{zero, one, one, true},
		{zero, wide.Of(2), one, false},
		{zero, wide.Of(9), wide.Of(3), true},
		{zero, wide.Of(10), wide.Of(3), false},
		{one, zero, wide.U{Hi: 1}, true},
		{top, top, top, false},
		{wide.U{Hi: most, Lo: most - 1}, one, top, true},
	} {
		if root, all := wide.Root(c.hi, c.lo); root != c.root || all != c.exact {
			t.Errorf("Root(%v, %v) = %v, %v", c.hi, c.lo, root, all)
		}
	}
}
