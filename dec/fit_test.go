package dec_test

import (
	"math"
	"math/big"
	"math/rand"
	"strings"
	"testing"

	"casuist/api"
	"casuist/dec"
	"casuist/wide"
)

// byMode is what a thing comes to by each mode, in the order of modes.
type byMode [7]string

func TestP22CutByEachMode(t *testing.T) {
	for _, c := range []struct {
		w    string
		more bool
		n    int
		want byMode
	}{
		// exactly half-way, above an even and an odd number of steps
		{"25", false, 1, byMode{"2E1", "3E1", "2E1", "3E1", "2E1", "2E1", "3E1"}},
		{"-25", false, 1, byMode{"-2E1", "-3E1", "-2E1", "-3E1", "-2E1", "-3E1", "-2E1"}},
		{"35", false, 1, byMode{"4E1", "4E1", "3E1", "4E1", "3E1", "3E1", "4E1"}},
		{"-35", false, 1, byMode{"-4E1", "-4E1", "-3E1", "-4E1", "-3E1", "-4E1", "-3E1"}},
		{"5", false, 1, byMode{"0E1", "1E1", "0E1", "1E1", "0E1", "0E1", "1E1"}},
		{"-5", false, 1, byMode{"-0E1", "-1E1", "-0E1", "-1E1", "-0E1", "-1E1", "-0E1"}},
		{"2500", false, 3, byMode{"2E3", "3E3", "2E3", "3E3", "2E3", "2E3", "3E3"}},
		{"-3500E-7", false, 3, byMode{"-4E-4", "-4E-4", "-3E-4", "-4E-4", "-3E-4", "-4E-4", "-3E-4"}},
		// half-way and a little more
		{"25", true, 1, byMode{"3E1", "3E1", "3E1", "3E1", "2E1", "2E1", "3E1"}},
		{"-25", true, 1, byMode{"-3E1", "-3E1", "-3E1", "-3E1", "-2E1", "-3E1", "-2E1"}},
		{"2501", false, 3, byMode{"3E3", "3E3", "3E3", "3E3", "2E3", "2E3", "3E3"}},
		{"-2510", false, 3, byMode{"-3E3", "-3E3", "-3E3", "-3E3", "-2E3", "-3E3", "-2E3"}},
		// below and above half
		{"24", true, 1, byMode{"2E1", "2E1", "2E1", "3E1", "2E1", "2E1", "3E1"}},
		{"2499", false, 3, byMode{"2E3", "2E3", "2E3", "3E3", "2E3", "2E3", "3E3"}},
		{"-2499", true, 3, byMode{"-2E3", "-2E3", "-2E3", "-3E3", "-2E3", "-3E3", "-2E3"}},
		{"26", false, 1, byMode{"3E1", "3E1", "3E1", "3E1", "2E1", "2E1", "3E1"}},
		{"-26", false, 1, byMode{"-3E1", "-3E1", "-3E1", "-3E1", "-2E1", "-3E1", "-2E1"}},
		// a multiple already
		{"30", false, 1, byMode{"3E1", "3E1", "3E1", "3E1", "3E1", "3E1", "3E1"}},
		{"-30", false, 1, byMode{"-3E1", "-3E1", "-3E1", "-3E1", "-3E1", "-3E1", "-3E1"}},
		{"7E5", false, 0, byMode{"7E5", "7E5", "7E5", "7E5", "7E5", "7E5", "7E5"}},
		{"0E5", false, 2, byMode{"0E7", "0E7", "0E7", "0E7", "0E7", "0E7", "0E7"}},
		{"-0", false, 2, byMode{"-0E2", "-0E2", "-0E2", "-0E2", "-0E2", "-0E2", "-0E2"}},
		// one and a very little more
		{"30", true, 1, byMode{"3E1", "3E1", "3E1", "4E1", "3E1", "3E1", "4E1"}},
		{"-30", true, 1, byMode{"-3E1", "-3E1", "-3E1", "-4E1", "-3E1", "-4E1", "-3E1"}},
		{"7", true, 0, byMode{"7", "7", "7", "8", "7", "7", "8"}},
		{"-7", true, 0, byMode{"-7", "-7", "-7", "-8", "-7", "-8", "-7"}},
		{"0", true, 0, byMode{"0", "0", "0", "1", "0", "0", "1"}},
		{"-0", true, 0, byMode{"-0", "-0", "-0", "-1", "-0", "-1", "-0"}},
		{"-1", true, 3, byMode{"-0E3", "-0E3", "-0E3", "-1E3", "-0E3", "-1E3", "-0E3"}},
		// carried through the nines
		{"99995", false, 1, byMode{"10000E1", "10000E1", "9999E1", "10000E1", "9999E1", "9999E1", "10000E1"}},
	} {
		for i, m := range modes() {
			if got, want := dec.Cut(wideOf(c.w, c.more), c.n, m), wideOf(c.want[i], false); got != want {
				t.Errorf("Cut(%s, %v, %d, mode %d) = %v, not %v", c.w, c.more, c.n, m, got, want)
			}
		}
	}
}

func TestP22CutFarther(t *testing.T) {
	least := wideOf("1", false)
	top := dec.Wide{Hi: wide.U{Hi: 1<<64 - 1, Lo: 1<<64 - 1}, Lo: wide.U{Hi: 1<<64 - 1, Lo: 1<<64 - 1}}
	for _, n := range []int{2, 19, 20, 38, 39, 76, 77, 78, 79, 80, 1000, 1 << 20} {
		for _, m := range modes() {
			want := dec.Wide{Exp: n}
			if m == dec.Up || m == dec.Ceiling {
				want.Lo = wide.Of(1)
			}
			if got := dec.Cut(least, n, m); got != want {
				t.Errorf("Cut(1, %d, mode %d) = %v", n, m, got)
			}
			if got := dec.Cut(top, n, m); n > 77 && got != want {
				t.Errorf("Cut(2^256 - 1, %d, mode %d) = %v", n, m, got)
			}
		}
	}
	for _, n := range []int{0, -1, -7, math.MinInt} {
		for _, m := range modes() {
			if got := dec.Cut(top, n, m); got != top {
				t.Errorf("Cut(2^256 - 1, %d, mode %d) = %v", n, m, got)
			}
			w := wideOf("-12E-3", true)
			if got, want := dec.Cut(w, n, m), dec.Cut(w, 0, m); got != want || got.Exp != -3 || got.More || !got.Neg {
				t.Errorf("Cut(-12E-3, %d, mode %d) = %v", n, m, got)
			}
		}
	}
}

func checkCut(t *testing.T, w dec.Wide, n int, m dec.Mode) {
	t.Helper()
	steps := sizeOf(w).rounded(max(n, 0), m)
	if steps.BitLen() > 256 {
		return
	}
	want := dec.Wide{Neg: w.Neg, Hi: uOf(new(big.Int).Rsh(steps, 128)), Lo: uOf(steps), Exp: w.Exp + max(n, 0)}
	if got := dec.Cut(w, n, m); got != want {
		t.Errorf("Cut(%v, %d, mode %d) = %v, not %v", w, n, m, got, want)
	}
}

// someWide is of up to 78 digits.
func someWide(r *rand.Rand) dec.Wide {
	x, _ := new(big.Int).SetString("0"+digitRun(r, r.Intn(79)), 10)
	if x.BitLen() > 256 {
		x.Quo(x, big.NewInt(10))
	}
	return dec.Wide{Neg: r.Intn(2) == 1, Hi: uOf(new(big.Int).Rsh(x, 128)), Lo: uOf(x), Exp: r.Intn(201) - 100, More: r.Intn(3) == 0}
}

func TestP22CutByTheWords(t *testing.T) {
	r := rand.New(rand.NewSource(3))
	for range 20000 {
		w, n := someWide(r), r.Intn(85)-2
		for _, m := range modes() {
			checkCut(t, w, n, m)
		}
	}
	// about the half of each step, with each of its lengths
	for n := 1; n <= 77; n++ {
		for steps := range int64(3) {
			for off := int64(-1); off <= 1; off++ {
				x := new(big.Int).Quo(tenTo(n), big.NewInt(2))
				x.Add(x, new(big.Int).Mul(tenTo(n), big.NewInt(steps))).Add(x, big.NewInt(off))
				if x.BitLen() > 256 {
					continue
				}
				for i := range 4 {
					w := dec.Wide{Neg: i > 1, Hi: uOf(new(big.Int).Rsh(x, 128)), Lo: uOf(x), Exp: -n, More: i%2 == 1}
					for _, m := range modes() {
						checkCut(t, w, n, m)
					}
				}
			}
		}
	}
}

func checkFit(t *testing.T, w dec.Wide, m dec.Mode, want string) {
	t.Helper()
	var d dec.Dec
	if want != "" {
		d = num(want)
	}
	if got, ok := dec.Fit(w, m); got != d || ok != (want != "") {
		t.Errorf("Fit(%v, mode %d) = %v, %v, not %q", w, m, got, ok, want)
	}
}

func TestP22Fit(t *testing.T) {
	for _, c := range []struct{ w, want string }{
		// as it is
		{"150E-2", "1.50"},
		{"-150E-2", "-1.50"},
		{"0", "0"},
		{"-0", "0"},
		{"-0E5", "0E5"},
		{nines34, nines34},
		{"-" + nines34 + "E6111", "-" + nines34 + "E6111"},
		{"1E-6176", "1E-6176"},
		// of 35 digits and more
		{ten34, ten33 + "E1"},
		{"12345678901234567890123456789012345", "1234567890123456789012345678901234E1"},
		{"12345678901234567890123456789012355", "1234567890123456789012345678901236E1"},
		{"-12345678901234567890123456789012355E-3", "-1234567890123456789012345678901236E-2"},
		{"1234567890123456789012345678901234567890", "1234567890123456789012345678901235E6"},
		{"7" + strings.Repeat("0", 76), "7" + ten33[1:] + "E43"},
		// rounding makes 35
		{nines34 + "5", ten33 + "E2"},
		{"-" + nines34 + "99E-1", "-" + ten33 + "E2"},
		{nines34 + "4", nines34 + "E1"},
		{nines34 + "9E6109", ten33 + "E6111"},
		{"9999999999999999999999999999999998" + "5E6110", "9999999999999999999999999999999998E6111"},
		// below MinExp
		{"1E-6177", "0E-6176"},
		{"5E-6177", "0E-6176"},
		{"-5E-6177", "0E-6176"},
		{"6E-6177", "1E-6176"},
		{"-15E-6177", "-2E-6176"},
		{"25E-6177", "2E-6176"},
		{"1000E-6178", "10E-6176"},
		{nines34 + "E-6177", ten33 + "E-6176"},
		{nines34 + "E-6176", nines34 + "E-6176"},
		{nines34 + "E-6210", "1E-6176"},
		{nines34 + "E-6211", "0E-6176"},
		{nines34 + "7E-6178", ten33 + "E-6176"},
		{nines34 + nines34 + "E-6211", ten33 + "E-6176"},
		{"1E-9000000000000000000", "0E-6176"},
		{"-0E-6177", "0E-6176"},
		{"0E-9223372036854775808", "0E-6176"},
		// above MaxExp
		{"0E6112", "0E6111"},
		{"0E9223372036854775807", "0E6111"},
		{"1E6111", "1E6111"},
		{"1E6112", ten33 + "E6079"},
		{"-25E6112", "-25" + ten33[2:] + "E6080"},
		{"1E6144", ten33 + "E6111"},
		{"12E6143", "12" + ten33[2:] + "E6111"},
		{"999999999999999999999999999999999E6112", "9999999999999999999999999999999990E6111"},
		{ten34 + "E6110", ten33 + "E6111"},
		{"1E6145", ""},
		{"-12E6144", ""},
		{ten33 + "E6112", ""},
		{nines34 + "E6112", ""},
		{ten34 + "E6111", ""},
		{nines34 + "5E6110", ""},
		{"1E9223372036854775807", ""},
		{"-" + nines34 + nines34 + "E9223372036854775807", ""},
		{nines34 + nines34 + "E9223372036854775780", ""},
	} {
		checkFit(t, wideOf(c.w, false), dec.HalfEven, c.want)
	}
}

func TestP22FitByEachMode(t *testing.T) {
	const odd, even = "1234567890123456789012345678901233", "1234567890123456789012345678901234"
	const up = "1234567890123456789012345678901235"
	for _, c := range []struct {
		w    string
		more bool
		want byMode
	}{
		{even + "5", false, byMode{even + "E1", up + "E1", even + "E1", up + "E1", even + "E1", even + "E1", up + "E1"}},
		{"-" + even + "5", false, byMode{"-" + even + "E1", "-" + up + "E1", "-" + even + "E1", "-" + up + "E1", "-" + even + "E1", "-" + up + "E1", "-" + even + "E1"}},
		{odd + "5", false, byMode{even + "E1", even + "E1", odd + "E1", even + "E1", odd + "E1", odd + "E1", even + "E1"}},
		{"-" + odd + "5", false, byMode{"-" + even + "E1", "-" + even + "E1", "-" + odd + "E1", "-" + even + "E1", "-" + odd + "E1", "-" + even + "E1", "-" + odd + "E1"}},
		{even + "5", true, byMode{up + "E1", up + "E1", up + "E1", up + "E1", even + "E1", even + "E1", up + "E1"}},
		{"-" + even + "50", true, byMode{"-" + up + "E2", "-" + up + "E2", "-" + up + "E2", "-" + up + "E2", "-" + even + "E2", "-" + up + "E2", "-" + even + "E2"}},
		{nines34 + "5", false, byMode{ten33 + "E2", ten33 + "E2", nines34 + "E1", ten33 + "E2", nines34 + "E1", nines34 + "E1", ten33 + "E2"}},
		{"-" + nines34 + "5", false, byMode{"-" + ten33 + "E2", "-" + ten33 + "E2", "-" + nines34 + "E1", "-" + ten33 + "E2", "-" + nines34 + "E1", "-" + ten33 + "E2", "-" + nines34 + "E1"}},
		{nines34, true, byMode{nines34, nines34, nines34, ten33 + "E1", nines34, nines34, ten33 + "E1"}},
		{"-" + nines34, true, byMode{"-" + nines34, "-" + nines34, "-" + nines34, "-" + ten33 + "E1", "-" + nines34, "-" + ten33 + "E1", "-" + nines34}},
		{"15E-1", true, byMode{"1.5", "1.5", "1.5", "1.6", "1.5", "1.5", "1.6"}},
		{"0E6200", true, byMode{"0E6111", "0E6111", "0E6111", "", "0E6111", "0E6111", ""}},
		{"0E6112", true, byMode{"0E6111", "0E6111", "0E6111", ten33 + "E6079", "0E6111", "0E6111", ten33 + "E6079"}},
		{"-0E-9000", true, byMode{"0E-6176", "0E-6176", "0E-6176", "-1E-6176", "0E-6176", "-1E-6176", "0E-6176"}},
		{"5E-6177", false, byMode{"0E-6176", "1E-6176", "0E-6176", "1E-6176", "0E-6176", "0E-6176", "1E-6176"}},
		{"-5E-6177", false, byMode{"0E-6176", "-1E-6176", "0E-6176", "-1E-6176", "0E-6176", "-1E-6176", "0E-6176"}},
		{nines34 + "E6111", true, byMode{nines34 + "E6111", nines34 + "E6111", nines34 + "E6111", "", nines34 + "E6111", nines34 + "E6111", ""}},
		{"1E-9223372036854775808", false, byMode{"0E-6176", "0E-6176", "0E-6176", "1E-6176", "0E-6176", "0E-6176", "1E-6176"}},
	} {
		for i, m := range modes() {
			checkFit(t, wideOf(c.w, c.more), m, c.want[i])
		}
	}
}

func TestP22FitByTheWords(t *testing.T) {
	r := rand.New(rand.NewSource(4))
	middles := []int{0, api.MinExp, api.MinExp - 34, api.MinExp - 78, api.MaxExp, api.MaxExp - 34, api.MaxExp + 34, -1 << 40, 1 << 40, math.MinInt + 200, math.MaxInt - 200}
	for range 3000 {
		w := someWide(r)
		about := w.Exp
		for _, middle := range middles {
			w.Exp = middle + about
			for _, m := range modes() {
				want, may := sizeOf(w).fitted(m)
				if got, ok := dec.Fit(w, m); got != want || ok != may {
					t.Errorf("Fit(%v, mode %d) = %v, %v, not %v, %v", w, m, got, ok, want, may)
				} else if ok && !got.May() {
					t.Errorf("Fit(%v, mode %d) = %v, no number", w, m, got)
				}
			}
		}
	}
}

// Nothing is promised of a mode that is none, nor of so many digits, but that the calls end.
func TestP22WrongInputsEnd(t *testing.T) {
	r := rand.New(rand.NewSource(5))
	for range 200 {
		w := someWide(r)
		for _, exp := range []int{math.MinInt, -1, 0, math.MaxInt} {
			w.Exp = exp
			for _, m := range []dec.Mode{0, -1, 8, math.MinInt, math.MaxInt, dec.HalfEven, dec.Up} {
				dec.Fit(w, m)
				for _, n := range []int{math.MinInt, -1, 1, 78, 1<<20 + 1, math.MaxInt} {
					dec.Cut(w, n, m)
				}
			}
		}
	}
}
