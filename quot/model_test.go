package quot_test

import (
	"math"
	"math/big"
	"math/rand"
	"strconv"
	"strings"
	"testing"

	"casuist/api"
	"casuist/dec"
	"casuist/wide"
)

// What the chapter's words say, done plainly with math/big, for the tests to hold the package against.

const (
	nines34 = "9999999999999999999999999999999999"
	ten33   = "1000000000000000000000000000000000"
	ten34   = "10000000000000000000000000000000000"
)

func bigOf(a wide.U) *big.Int {
	x := new(big.Int).SetUint64(a.Hi)
	return x.Lsh(x, 64).Or(x, new(big.Int).SetUint64(a.Lo))
}

// uOf is x's low 128 bits.
func uOf(x *big.Int) wide.U {
	word := new(big.Int).SetUint64(1<<64 - 1)
	lo := new(big.Int).And(x, word)
	hi := new(big.Int).Rsh(x, 64)
	return wide.U{Hi: hi.And(hi, word).Uint64(), Lo: lo.Uint64()}
}

func tenTo(n int) *big.Int { return new(big.Int).Exp(big.NewInt(10), big.NewInt(int64(n)), nil) }

func coef(digits string) wide.U {
	x, ok := new(big.Int).SetString(digits, 10)
	if !ok {
		panic("no digits: " + digits)
	}
	return uOf(x)
}

// num is a Dec told as a text, just as it stands there: -1.50E3 is -150 by 10^1.
func num(s string) dec.Dec {
	digits, neg := strings.CutPrefix(s, "-")
	digits, exp, told := strings.Cut(digits, "E")
	d := dec.Dec{Neg: neg}
	if told {
		e, err := strconv.Atoi(exp)
		if err != nil {
			panic(err)
		}
		d.Exp = e
	}
	whole, places, _ := strings.Cut(digits, ".")
	d.Exp -= len(places)
	d.Coef = coef(whole + places)
	return d
}

// told is a Dec as a text, for what a test complains of.
func told(d dec.Dec) string {
	s := d.Coef.Text() + "E" + strconv.Itoa(d.Exp)
	if d.Neg {
		return "-" + s
	}
	return s
}

// answered holds what a call answers against a text, or against nothing, if that is empty.
func answered(t *testing.T, call string, got dec.Dec, ok bool, want string) {
	t.Helper()
	var d dec.Dec
	if want != "" {
		d = num(want)
	}
	if got != d || ok != (want != "") {
		t.Errorf("%s = %s, %v, not %q", call, told(got), ok, want)
	}
}

// ratio is top by bottom times 10^exp, the whole of it.
type ratio struct {
	neg         bool
	top, bottom *big.Int
	exp         int
}

// exactly is how many steps of 10^f it is, and whether that is a whole number.
func (r ratio) exactly(f int) (*big.Int, bool) {
	top, bottom := r.by(f)
	steps, rest := new(big.Int).QuoRem(top, bottom, new(big.Int))
	return steps, rest.Sign() == 0
}

// by is it by 10^f, as two whole numbers.
func (r ratio) by(f int) (*big.Int, *big.Int) {
	if f <= r.exp {
		return new(big.Int).Mul(r.top, tenTo(r.exp-f)), r.bottom
	}
	return r.top, new(big.Int).Mul(r.bottom, tenTo(f-r.exp))
}

// rounded is how many steps of 10^f it is, rounded to the nearer one, or to the even one of both as near.
func (r ratio) rounded(f int) *big.Int {
	top, bottom := r.by(f)
	steps, rest := new(big.Int).QuoRem(top, bottom, new(big.Int))
	half := new(big.Int).Lsh(rest, 1).Cmp(bottom)
	if half > 0 || half == 0 && steps.Bit(0) == 1 {
		steps.Add(steps, big.NewInt(1))
	}
	return steps
}

// fitted is it as a number, with an exponent from e on, or, if that is far too low, with 34 digits.
func (r ratio) fitted(e int) (dec.Dec, bool) {
	if r.top.Sign() == 0 {
		return dec.Dec{Exp: max(min(e, api.MaxExp), api.MinExp)}, true
	}
	f := max(e, api.MinExp)
	// With a lower exponent there are surely more than 34 digits.
	f = max(f, r.exp+len(r.top.String())-len(r.bottom.String())-api.MaxDigits-1)
	steps := r.rounded(f)
	for steps.Cmp(tenTo(api.MaxDigits)) >= 0 {
		f++
		steps = r.rounded(f)
	}
	if steps.Sign() == 0 {
		return dec.Dec{Exp: f}, true
	}
	if f > api.MaxExp {
		for len(steps.String()) < api.MaxDigits {
			steps.Mul(steps, big.NewInt(10))
			f--
		}
	}
	if f > api.MaxExp {
		return dec.Dec{}, false
	}
	return dec.Dec{Neg: r.neg, Coef: uOf(steps), Exp: f}, true
}

func divModel(a, b dec.Dec) (dec.Dec, bool) {
	if b.Zero() {
		return dec.Dec{}, false
	}
	e := a.Exp - b.Exp
	r := ratio{a.Neg != b.Neg, bigOf(a.Coef), bigOf(b.Coef), e}
	// A divisor below 10^34 has less than 113 twos or fives in it: with more places nothing gets exact.
	for f := e; f > e-113; f-- {
		steps, exact := r.exactly(f)
		if exact && steps.Cmp(tenTo(api.MaxDigits)) < 0 {
			return r.fitted(f)
		}
	}
	return r.fitted(e - 1000)
}

// powerModel goes by the digits of n, written in twos.
func powerModel(a dec.Dec, n int) (dec.Dec, bool) {
	if n > 999999999 || n < -999999999 {
		return dec.Dec{}, false
	}
	if n < 0 {
		p, ok := powerModel(a, -n)
		if !ok {
			return p, false
		}
		return divModel(num("1"), p)
	}
	p := num("1")
	for _, digit := range strconv.FormatInt(int64(n), 2) {
		var ok bool
		if p, ok = mulModel(p, p); !ok {
			return p, false
		}
		if digit == '0' {
			continue
		}
		if p, ok = mulModel(p, a); !ok {
			return p, false
		}
	}
	return p, true
}

func mulModel(a, b dec.Dec) (dec.Dec, bool) {
	e := a.Exp + b.Exp
	x := new(big.Int).Mul(bigOf(a.Coef), bigOf(b.Coef))
	return ratio{a.Neg != b.Neg, x, big.NewInt(1), e}.fitted(e)
}

// digitRun is some digits, such that noughts, nines and fives stand together often.
func digitRun(r *rand.Rand, n int) string {
	var b strings.Builder
	for b.Len() < n {
		k := 1 + r.Intn(n-b.Len())
		switch r.Intn(5) {
		case 0:
			b.WriteString(strings.Repeat("0", k))
		case 1:
			b.WriteString(strings.Repeat("9", k))
		case 2:
			b.WriteString("5")
		default:
			for range min(k, 6) {
				b.WriteByte(byte('0' + r.Intn(10)))
			}
		}
	}
	return b.String()
}

// someDec is a number; most often its exponent is not far from the middle one.
func someDec(r *rand.Rand, middle int) dec.Dec {
	d := dec.Dec{Coef: coef("0" + digitRun(r, r.Intn(api.MaxDigits+1)))}
	d.Neg = !d.Zero() && r.Intn(2) == 1
	d.Exp = middle + r.Intn(161) - 80
	if r.Intn(20) == 0 {
		d.Exp = api.MinExp + r.Intn(api.MaxExp-api.MinExp+1)
	}
	d.Exp = max(min(d.Exp, api.MaxExp), api.MinExp)
	return d
}

// edges are numbers that stand at an edge by their digits, with each sign and with exponents at an edge.
func edges() []dec.Dec {
	var out []dec.Dec
	digits := []string{"0", "1", "2", "3", "5", "8", "10", "5000000000000000000000000000000001", ten33, "9999999999999999999999999999999998", nines34}
	exps := []int{api.MinExp, api.MinExp + 1, api.MinExp + 33, -3089, -3088, -34, -1, 0, 1, 34, 3055, 3056, api.MaxExp - 33, api.MaxExp - 1, api.MaxExp}
	for _, s := range digits {
		for _, e := range exps {
			a := dec.Dec{Coef: coef(s), Exp: e}
			out = append(out, a)
			if !a.Zero() {
				a.Neg = true
				out = append(out, a)
			}
		}
	}
	return out
}

// noNumbers are Decs that are no numbers.
func noNumbers() []dec.Dec {
	top := wide.U{Hi: 1<<64 - 1, Lo: 1<<64 - 1}
	out := []dec.Dec{
		{Neg: true},
		{Neg: true, Exp: api.MinExp},
		{Neg: true, Exp: api.MaxExp},
		{Coef: coef(ten34)},
		{Neg: true, Coef: coef(ten34), Exp: api.MaxExp},
		{Coef: wide.U{Hi: 1 << 63}, Exp: -1},
		{Coef: top},
		{Neg: true, Coef: top, Exp: 1},
	}
	for _, e := range []int{math.MinInt, math.MinInt + 1, -1 << 62, -1 << 20, api.MinExp - 1, api.MaxExp + 1, 1 << 20, 1 << 62, math.MaxInt - 1, math.MaxInt} {
		for _, c := range []wide.U{{}, wide.Of(1), wide.Of(100), coef(nines34), coef(ten34), top} {
			out = append(out, dec.Dec{Coef: c, Exp: e}, dec.Dec{Neg: true, Coef: c, Exp: e})
		}
	}
	return out
}
