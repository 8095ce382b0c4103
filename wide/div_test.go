package wide_test

import (
	"math/big"
	"testing"

	"casuist/wide"
)

func checkDiv(t *testing.T, hi, lo, d wide.U) {
	t.Helper()
	q, r, ok := wide.Div(hi, lo, d)
	var wantQ, wantR big.Int
	want := false
	if !d.Zero() {
		wantQ.QuoRem(bigOf2(hi, lo), bigOf(d), &wantR)
		want = wantQ.Cmp(base) < 0
	}
	if !want {
		wantQ.SetInt64(0)
		wantR.SetInt64(0)
	}
	if ok != want || q != uOf(&wantQ) || r != uOf(&wantR) {
		t.Errorf("Div(%v, %v, %v) = %v, %v, %v", hi, lo, d, q, r, ok)
	}
}

func TestP13Div(t *testing.T) {
	for _, hi := range few() {
		for _, lo := range few() {
			for _, d := range edges() {
				checkDiv(t, hi, lo, d)
			}
		}
	}
	hi, lo, d := some(8, 20000), some(9, 20000), some(10, 20000)
	for i := range hi {
		checkDiv(t, hi[i], lo[i], d[i])
	}
}

// What lies just about a multiple of the divisor is where a guessed word of the quotient is most off.
func TestP13DivAboutMultiples(t *testing.T) {
	for _, q := range edges() {
		for _, d := range edges() {
			h, l := wide.Mul(q, d)
			checkDiv(t, h, l, d)
			below, lower, _ := wide.Sub2(h, l, zero, one)
			checkDiv(t, below, lower, d)
			above, higher, _ := wide.Add2(h, l, zero, one)
			checkDiv(t, above, higher, d)
		}
	}
}

func TestP13DivEdges(t *testing.T) {
	if q, r, ok := wide.Div(one, zero, wide.Of(3)); !ok || q != (wide.U{Hi: 6148914691236517205, Lo: 6148914691236517205}) || r != one {
		t.Error("the chapter's example", q, r, ok)
	}
	if q, r, ok := wide.Div(zero, zero, wide.Of(5)); !ok || q != zero || r != zero {
		t.Error("0 by 5", q, r, ok)
	}
	if q, r, ok := wide.Div(wide.Of(2), top, wide.Of(3)); !ok || q != top || r != wide.Of(2) {
		t.Error("the greatest quotient", q, r, ok)
	}
	for _, d := range []wide.U{one, wide.Of(3), {Hi: 1, Lo: 5}, top} {
		if q, r, ok := wide.Div(d, zero, d); ok || q != zero || r != zero {
			t.Error("a quotient of B", d, q, r, ok)
		}
		if q, r, ok := wide.Div(top, top, d); ok || q != zero || r != zero {
			t.Error("a quotient above B", d, q, r, ok)
		}
	}
	for _, a := range few() {
		if q, r, ok := wide.Div(a, a, zero); ok || q != zero || r != zero {
			t.Error("by 0", a, q, r, ok)
		}
	}
}

func checkDivWord(t *testing.T, hi, lo wide.U, x uint64) {
	t.Helper()
	h, l, r, ok := wide.DivWord(hi, lo, x)
	var wantQ, wantR big.Int
	if x != 0 {
		wantQ.QuoRem(bigOf2(hi, lo), new(big.Int).SetUint64(x), &wantR)
	}
	wantH, wantL := uOf2(&wantQ)
	if ok != (x != 0) || h != wantH || l != wantL || r != wantR.Uint64() {
		t.Errorf("DivWord(%v, %v, %d) = %v, %v, %d, %v", hi, lo, x, h, l, r, ok)
	}
}

func TestP13DivWord(t *testing.T) {
	pairs(func(a, b wide.U) {
		checkDivWord(t, a, b, 10)
		checkDivWord(t, a, b, b.Hi)
	})
	for _, a := range few() {
		for _, b := range few() {
			for _, x := range words() {
				checkDivWord(t, a, b, x)
			}
		}
	}
	if h, l, r, ok := wide.DivWord(top, top, 0); ok || h != zero || l != zero || r != 0 {
		t.Error("by 0", h, l, r, ok)
	}
	if h, l, r, ok := wide.DivWord(top, top, 1); !ok || h != top || l != top || r != 0 {
		t.Error("by 1", h, l, r, ok)
	}
}
