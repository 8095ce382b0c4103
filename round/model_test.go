package round_test

import (
	"math"
	"math/big"
	"math/rand"
	"strconv"
	"strings"
	"testing"

	"casuist/api"
	"casuist/dec"
	"casuist/wide"
)

// What the chapter's words say, done plainly with math/big, for the tests to hold the package against.

const (
	nines34 = "9999999999999999999999999999999999"
	nines33 = "999999999999999999999999999999999"
	ten33   = "1000000000000000000000000000000000"
	ten34   = "10000000000000000000000000000000000"
)

func modes() []dec.Mode {
	return []dec.Mode{dec.HalfEven, dec.HalfUp, dec.HalfDown, dec.Up, dec.Down, dec.Floor, dec.Ceiling}
}

func noModes() []dec.Mode {
	return []dec.Mode{0, -1, -7, 8, 9, 1<<32 + 1, math.MinInt, math.MinInt + 1, math.MaxInt}
}

func bigOf(a wide.U) *big.Int {
	x := new(big.Int).SetUint64(a.Hi)
	return x.Lsh(x, 64).Or(x, new(big.Int).SetUint64(a.Lo))
}

// uOf is x's low 128 bits.
func uOf(x *big.Int) wide.U {
	word := new(big.Int).SetUint64(1<<64 - 1)
	lo := new(big.Int).And(x, word)
	hi := new(big.Int).Rsh(x, 64)
	return wide.U{Hi: hi.And(hi, word).Uint64(), Lo: lo.Uint64()}
}

func tenTo(n int) *big.Int { return new(big.Int).Exp(big.NewInt(10), big.NewInt(int64(n)), nil) }

func coef(digits string) wide.U {
	x, ok := new(big.Int).SetString(digits, 10)
	if !ok {
		panic("no digits: " + digits)
	}
	return uOf(x)
}

// num is a Dec told as a text, just as it stands there: -1.50E3 is -150 by 10^1.
func num(s string) dec.Dec {
	digits, neg := strings.CutPrefix(s, "-")
	digits, exp, told := strings.Cut(digits, "E")
	d := dec.Dec{Neg: neg}
	if told {
		e, err := strconv.Atoi(exp)
		if err != nil {
			panic(err)
		}
		d.Exp = e
	}
	whole, places, _ := strings.Cut(digits, ".")
	d.Exp -= len(places)
	d.Coef = coef(whole + places)
	return d
}

// told is a Dec as a text, for what a test complains of.
func told(d dec.Dec) string {
	s := d.Coef.Text() + "E" + strconv.Itoa(d.Exp)
	if d.Neg {
		return "-" + s
	}
	return s
}

// answered holds what a call answers against a text, or against nothing, if that is empty.
func answered(t *testing.T, call string, got dec.Dec, ok bool, want string) {
	t.Helper()
	var d dec.Dec
	if want != "" {
		d = num(want)
	}
	if got != d || ok != (want != "") {
		t.Errorf("%s = %s, %v, not %q", call, told(got), ok, want)
	}
}

// roundedModel is how many times step goes into size, rounded by a mode.
func roundedModel(size, step *big.Int, below bool, m dec.Mode) *big.Int {
	near, rest := new(big.Int).QuoRem(size, step, new(big.Int))
	if rest.Sign() == 0 {
		return near
	}
	far := new(big.Int).Add(near, big.NewInt(1))
	even := near
	if near.Bit(0) == 1 {
		even = far
	}
	lower, higher := near, far
	if below {
		lower, higher = far, near
	}
	half := new(big.Int).Lsh(rest, 1).Cmp(step)
	nearer := func(both *big.Int) *big.Int { return []*big.Int{near, both, far}[half+1] }
	switch m {
	case dec.HalfEven:
		return nearer(even)
	case dec.HalfUp:
		return nearer(far)
	case dec.HalfDown:
		return nearer(near)
	case dec.Up:
		return far
	case dec.Down:
		return near
	case dec.Floor:
		return lower
	case dec.Ceiling:
		return higher
	}
	panic("no mode")
}

// scaleModel is what Scale is to answer, for a mode that is one.
func scaleModel(a dec.Dec, places int, m dec.Mode) (dec.Dec, bool) {
	if places < -6111 || places > 6176 {
		return dec.Dec{}, false
	}
	// With more noughts than these on either side nothing comes out otherwise.
	e := max(min(a.Exp+places, 100), -100)
	size := new(big.Int).Mul(bigOf(a.Coef), tenTo(max(e, 0)))
	n := roundedModel(size, tenTo(max(-e, 0)), a.Neg, m)
	if n.Cmp(tenTo(34)) >= 0 {
		return dec.Dec{}, false
	}
	return dec.Dec{Neg: a.Neg && n.Sign() != 0, Coef: uOf(n), Exp: -places}, true
}

// wholeModel is what Whole is to answer, for a mode that is one.
func wholeModel(a dec.Dec, m dec.Mode) dec.Dec {
	if a.Exp >= 0 {
		return a
	}
	d, ok := scaleModel(a, 0, m)
	if !ok {
		panic("a whole number of too many digits")
	}
	return d
}

// isMultiple tells whether a number is n times a whole number.
func isMultiple(a dec.Dec, n int64) bool {
	size := new(big.Int).Mul(bigOf(a.Coef), tenTo(max(a.Exp, 0)))
	step := new(big.Int).Mul(big.NewInt(n), tenTo(max(-a.Exp, 0)))
	return new(big.Int).Rem(size, step).Sign() == 0
}

// digitRun is some digits, such that noughts, nines and fives stand together often.
func digitRun(r *rand.Rand, n int) string {
	var b strings.Builder
	for b.Len() < n {
		k := 1 + r.Intn(n-b.Len())
		switch r.Intn(5) {
		case 0:
			b.WriteString(strings.Repeat("0", k))
		case 1:
			b.WriteString(strings.Repeat("9", k))
		case 2:
			b.WriteString("5")
		default:
			for range min(k, 6) {
				b.WriteByte(byte('0' + r.Intn(10)))
			}
		}
	}
	return b.String()
}

// someDec is a number; most often its exponent is not far from the middle one.
func someDec(r *rand.Rand, middle, spread int) dec.Dec {
	d := dec.Dec{Coef: coef("0" + digitRun(r, r.Intn(api.MaxDigits+1)))}
	d.Neg = !d.Zero() && r.Intn(2) == 1
	d.Exp = middle + r.Intn(2*spread+1) - spread
	if r.Intn(20) == 0 {
		d.Exp = api.MinExp + r.Intn(api.MaxExp-api.MinExp+1)
	}
	d.Exp = max(min(d.Exp, api.MaxExp), api.MinExp)
	return d
}

// edges are numbers that stand at an edge by their digits, with each sign and with exponents at an edge.
func edges() []dec.Dec {
	var out []dec.Dec
	digits := []string{"0", "1", "2", "5", "9", "10", "15", "25", "5000000000000000000000000000000000", "5000000000000000000000000000000001", ten33, "9999999999999999999999999999999995", nines34}
	exps := []int{api.MinExp, api.MinExp + 1, api.MinExp + 33, -39, -38, -35, -34, -33, -2, -1, 0, 1, 33, 34, 38, 39, api.MaxExp - 33, api.MaxExp - 1, api.MaxExp}
	for _, s := range digits {
		for _, e := range exps {
			a := dec.Dec{Coef: coef(s), Exp: e}
			out = append(out, a)
			if !a.Zero() {
				a.Neg = true
				out = append(out, a)
			}
		}
	}
	return out
}

// noNumbers are Decs that are no numbers.
func noNumbers() []dec.Dec {
	top := wide.U{Hi: 1<<64 - 1, Lo: 1<<64 - 1}
	out := []dec.Dec{
		{Neg: true},
		{Neg: true, Exp: api.MinExp},
		{Neg: true, Exp: api.MaxExp},
		{Coef: coef(ten34)},
		{Neg: true, Coef: coef(ten34), Exp: api.MaxExp},
		{Coef: wide.U{Hi: 1 << 63}, Exp: -1},
		{Coef: top},
		{Neg: true, Coef: top, Exp: 1},
		{Coef: top, Exp: -39},
	}
	for _, e := range []int{math.MinInt, math.MinInt + 1, -1 << 62, -1 << 20, api.MinExp - 1, api.MaxExp + 1, 1 << 20, 1 << 62, math.MaxInt - 1, math.MaxInt} {
		for _, c := range []wide.U{{}, wide.Of(1), wide.Of(100), coef(nines34), coef(ten34), top} {
			out = append(out, dec.Dec{Coef: c, Exp: e}, dec.Dec{Neg: true, Coef: c, Exp: e})
		}
	}
	return out
}

// The limits that the tests of this package have written out.
func TestLimits(t *testing.T) {
	if api.MaxDigits != 34 || api.MinExp != -6176 || api.MaxExp != 6111 {
		t.Error("the tests of this package are written for other limits")
	}
}
