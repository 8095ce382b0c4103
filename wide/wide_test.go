package wide_test

import (
	"math/big"
	"math/rand"
	"testing"

	"casuist/wide"
)

const most = 1<<64 - 1

var (
	top  = wide.U{Hi: most, Lo: most}
	zero = wide.U{}
	one  = wide.U{Lo: 1}
	base = new(big.Int).Lsh(big.NewInt(1), 128)
)

func bigOf(a wide.U) *big.Int {
	x := new(big.Int).SetUint64(a.Hi)
	return x.Lsh(x, 64).Or(x, new(big.Int).SetUint64(a.Lo))
}

func bigOf2(hi, lo wide.U) *big.Int {
	x := bigOf(hi)
	return x.Lsh(x, 128).Or(x, bigOf(lo))
}

// uOf is x's low 128 bits.
func uOf(x *big.Int) wide.U {
	word := new(big.Int).SetUint64(most)
	lo := new(big.Int).And(x, word)
	hi := new(big.Int).Rsh(x, 64)
	return wide.U{Hi: hi.And(hi, word).Uint64(), Lo: lo.Uint64()}
}

func uOf2(x *big.Int) (wide.U, wide.U) { return uOf(new(big.Int).Rsh(x, 128)), uOf(x) }

func words() []uint64 {
	return []uint64{0, 1, 2, 9, 10, 1<<32 - 1, 1 << 32, 1<<63 - 1, 1 << 63, 1<<63 + 1, 10_000_000_000_000_000_000, most - 1, most}
}

// edges are the numbers whose both words stand at an edge.
func edges() []wide.U {
	var out []wide.U
	for _, h := range words() {
		for _, l := range words() {
			out = append(out, wide.U{Hi: h, Lo: l})
		}
	}
	return out
}

// few are edges enough to be tried by fours.
func few() []wide.U {
	return []wide.U{zero, one, {Lo: 7}, {Lo: most}, {Hi: 1}, {Hi: 1, Lo: most}, {Hi: 1 << 63}, {Hi: 1 << 63, Lo: 1}, {Hi: most}, {Hi: most, Lo: most - 1}, top}
}

// some is n numbers of all lengths, the same ones each time.
func some(seed int64, n int) []wide.U {
	r := rand.New(rand.NewSource(seed))
	out := make([]wide.U, n)
	for i := range out {
		x := new(big.Int).Lsh(new(big.Int).SetUint64(r.Uint64()), 64)
		x.Or(x, new(big.Int).SetUint64(r.Uint64()))
		out[i] = uOf(x.Rsh(x, uint(r.Intn(129))))
	}
	return out
}

func pairs(f func(a, b wide.U)) {
	for _, a := range edges() {
		for _, b := range edges() {
			f(a, b)
		}
	}
	as, bs := some(1, 5000), some(2, 5000)
	for i := range as {
		f(as[i], bs[i])
	}
}

func fours(f func(ah, al, bh, bl wide.U)) {
	for _, ah := range few() {
		for _, al := range few() {
			for _, bh := range few() {
				for _, bl := range few() {
					f(ah, al, bh, bl)
				}
			}
		}
	}
	ah, al, bh, bl := some(3, 5000), some(4, 5000), some(5, 5000), some(6, 5000)
	for i := range ah {
		f(ah[i], al[i], bh[i], bl[i])
	}
}

// over parts a sum or a difference into what is below the bound, and whether it went beyond.
func over(x, bound *big.Int) (*big.Int, uint64) {
	within := new(big.Int).Mod(x, bound)
	if within.Cmp(x) == 0 {
		return within, 0
	}
	return within, 1
}

func TestP11OfAndZero(t *testing.T) {
	for _, x := range words() {
		if got := wide.Of(x); got != (wide.U{Hi: 0, Lo: x}) {
			t.Errorf("Of(%d) = %v", x, got)
		}
	}
	for _, a := range edges() {
		if got, want := a.Zero(), bigOf(a).Sign() == 0; got != want {
			t.Errorf("%v.Zero() = %v", a, got)
		}
	}
}

func TestP11Cmp(t *testing.T) {
	pairs(func(a, b wide.U) {
		if got, want := wide.Cmp(a, b), bigOf(a).Cmp(bigOf(b)); got != want {
			t.Errorf("Cmp(%v, %v) = %d, not %d", a, b, got, want)
		}
	})
	fours(func(ah, al, bh, bl wide.U) {
		if got, want := wide.Cmp2(ah, al, bh, bl), bigOf2(ah, al).Cmp(bigOf2(bh, bl)); got != want {
			t.Errorf("Cmp2(%v, %v, %v, %v) = %d, not %d", ah, al, bh, bl, got, want)
		}
	})
}

func TestP11AddAndSub(t *testing.T) {
	pairs(func(a, b wide.U) {
		want, carry := over(new(big.Int).Add(bigOf(a), bigOf(b)), base)
		if got, c := wide.Add(a, b); got != uOf(want) || c != carry {
			t.Errorf("Add(%v, %v) = %v, %d", a, b, got, c)
		}
		want, borrow := over(new(big.Int).Sub(bigOf(a), bigOf(b)), base)
		if got, c := wide.Sub(a, b); got != uOf(want) || c != borrow {
			t.Errorf("Sub(%v, %v) = %v, %d", a, b, got, c)
		}
	})
}

func TestP11AddAndSubOf256Bits(t *testing.T) {
	square := new(big.Int).Mul(base, base)
	fours(func(ah, al, bh, bl wide.U) {
		want, carry := over(new(big.Int).Add(bigOf2(ah, al), bigOf2(bh, bl)), square)
		wantH, wantL := uOf2(want)
		if h, l, c := wide.Add2(ah, al, bh, bl); h != wantH || l != wantL || c != carry {
			t.Errorf("Add2(%v, %v, %v, %v) = %v, %v, %d", ah, al, bh, bl, h, l, c)
		}
		want, borrow := over(new(big.Int).Sub(bigOf2(ah, al), bigOf2(bh, bl)), square)
		wantH, wantL = uOf2(want)
		if h, l, c := wide.Sub2(ah, al, bh, bl); h != wantH || l != wantL || c != borrow {
			t.Errorf("Sub2(%v, %v, %v, %v) = %v, %v, %d", ah, al, bh, bl, h, l, c)
		}
	})
}

func TestP11Edges(t *testing.T) {
	if s, c := wide.Add(top, one); s != zero || c != 1 {
		t.Error("B - 1 and 1", s, c)
	}
	if s, c := wide.Add(top, top); s != (wide.U{Hi: most, Lo: most - 1}) || c != 1 {
		t.Error("B - 1 twice", s, c)
	}
	if s, c := wide.Add(wide.Of(most), one); s != (wide.U{Hi: 1}) || c != 0 {
		t.Error("2^64 - 1 and 1", s, c)
	}
	if d, c := wide.Sub(zero, one); d != top || c != 1 {
		t.Error("0 less 1", d, c)
	}
	if d, c := wide.Sub(wide.U{Hi: 1}, one); d != wide.Of(most) || c != 0 {
		t.Error("2^64 less 1", d, c)
	}
	if h, l, c := wide.Add2(top, top, zero, one); h != zero || l != zero || c != 1 {
		t.Error("B^2 - 1 and 1", h, l, c)
	}
	if h, l, c := wide.Add2(zero, top, zero, one); h != one || l != zero || c != 0 {
		t.Error("B - 1 and 1, of 256 bits", h, l, c)
	}
	if h, l, c := wide.Sub2(zero, zero, zero, one); h != top || l != top || c != 1 {
		t.Error("0 less 1, of 256 bits", h, l, c)
	}
	if h, l, c := wide.Sub2(one, zero, zero, one); h != zero || l != top || c != 0 {
		t.Error("B less 1", h, l, c)
	}
}

func TestP12MulWord(t *testing.T) {
	one := func(a wide.U, x uint64) {
		want := new(big.Int).Mul(bigOf(a), new(big.Int).SetUint64(x))
		wantH, wantL := uOf2(want)
		if o, l := wide.MulWord(a, x); wide.Of(o) != wantH || l != wantL {
			t.Errorf("MulWord(%v, %d) = %d, %v", a, x, o, l)
		}
	}
	for _, a := range append(edges(), some(7, 2000)...) {
		for _, x := range words() {
			one(a, x)
		}
		one(a, a.Lo)
	}
}

func TestP12Mul(t *testing.T) {
	pairs(func(a, b wide.U) {
		wantH, wantL := uOf2(new(big.Int).Mul(bigOf(a), bigOf(b)))
		if h, l := wide.Mul(a, b); h != wantH || l != wantL {
			t.Errorf("Mul(%v, %v) = %v, %v", a, b, h, l)
		}
	})
	if h, l := wide.Mul(top, top); h != (wide.U{Hi: most, Lo: most - 1}) || l != one {
		t.Error("the chapter's example", h, l)
	}
}
