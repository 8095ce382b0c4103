package dec_test

import (
	"math"
	"math/big"
	"math/rand"
	"strconv"
	"strings"

	"casuist/api"
	"casuist/dec"
	"casuist/wide"
)

// What the chapter's words say, done plainly with math/big, for the tests to hold the package against.

const (
	nines34 = "9999999999999999999999999999999999"
	ten33   = "1000000000000000000000000000000000"
	ten34   = "10000000000000000000000000000000000"
)

func bigOf(a wide.U) *big.Int {
	x := new(big.Int).SetUint64(a.Hi)
	return x.Lsh(x, 64).Or(x, new(big.Int).SetUint64(a.Lo))
}

func bigOf2(hi, lo wide.U) *big.Int {
	x := bigOf(hi)
	return x.Lsh(x, 128).Or(x, bigOf(lo))
}

// uOf is x's low 128 bits.
func uOf(x *big.Int) wide.U {
	word := new(big.Int).SetUint64(1<<64 - 1)
	lo := new(big.Int).And(x, word)
	hi := new(big.Int).Rsh(x, 64)
	return wide.U{Hi: hi.And(hi, word).Uint64(), Lo: lo.Uint64()}
}

func tenTo(n int) *big.Int { return new(big.Int).Exp(big.NewInt(10), big.NewInt(int64(n)), nil) }

// coef is a coefficient told by its digits.
func coef(digits string) wide.U {
	x, ok := new(big.Int).SetString(digits, 10)
	if !ok {
		panic("no digits: " + digits)
	}
	return uOf(x)
}

// num is a Dec told as a text, just as it stands there: -1.50E3 is -150 by 10^1.
func num(s string) dec.Dec {
	digits, neg := strings.CutPrefix(s, "-")
	digits, exp, told := strings.Cut(digits, "E")
	d := dec.Dec{Neg: neg}
	if told {
		e, err := strconv.Atoi(exp)
		if err != nil {
			panic(err)
		}
		d.Exp = e
	}
	whole, places, _ := strings.Cut(digits, ".")
	d.Exp -= len(places)
	d.Coef = coef(whole + places)
	return d
}

// wideOf is a Wide of a number, of 256 bits at most, told like num's.
func wideOf(s string, more bool) dec.Wide {
	digits, neg := strings.CutPrefix(s, "-")
	digits, exp, told := strings.Cut(digits, "E")
	x, ok := new(big.Int).SetString(digits, 10)
	if !ok || x.BitLen() > 256 {
		panic("no wide number: " + s)
	}
	w := dec.Wide{Neg: neg, Hi: uOf(new(big.Int).Rsh(x, 128)), Lo: uOf(x), More: more}
	if told {
		e, err := strconv.Atoi(exp)
		if err != nil {
			panic(err)
		}
		w.Exp = e
	}
	return w
}

func modes() []dec.Mode {
	return []dec.Mode{dec.HalfEven, dec.HalfUp, dec.HalfDown, dec.Up, dec.Down, dec.Floor, dec.Ceiling}
}

// size is a number that is not rounded yet, of any length.
type size struct {
	neg  bool
	x    *big.Int
	exp  int
	more bool
}

func sizeOf(w dec.Wide) size { return size{w.Neg, bigOf2(w.Hi, w.Lo), w.Exp, w.More} }

// rounded is how many steps of 10^n there are of it, rounded by a mode.
func (s size) rounded(n int, m dec.Mode) *big.Int {
	// Where a step has more noughts than that, nothing comes out otherwise.
	n = min(n, len(s.x.String())+2)
	// Fourths: one of them is what More is, less than half of any step.
	x := new(big.Int).Lsh(s.x, 2)
	if s.more {
		x.Add(x, big.NewInt(1))
	}
	step := new(big.Int).Lsh(tenTo(n), 2)
	near, rest := new(big.Int).QuoRem(x, step, new(big.Int))
	far := new(big.Int).Add(near, big.NewInt(1))
	if rest.Sign() == 0 {
		return near
	}
	half := new(big.Int).Lsh(rest, 1).Cmp(step)
	even := near
	if near.Bit(0) == 1 {
		even = far
	}
	lower, higher := near, far
	if s.neg {
		lower, higher = far, near
	}
	nearer := func(both *big.Int) *big.Int { return []*big.Int{near, both, far}[half+1] }
	switch m {
	case dec.HalfEven:
		return nearer(even)
	case dec.HalfUp:
		return nearer(far)
	case dec.HalfDown:
		return nearer(near)
	case dec.Up:
		return far
	case dec.Down:
		return near
	case dec.Floor:
		return lower
	case dec.Ceiling:
		return higher
	}
	panic("no mode")
}

func (s size) fitted(m dec.Mode) (dec.Dec, bool) {
	if s.x.Sign() == 0 && !s.more {
		return dec.Dec{Exp: max(min(s.exp, api.MaxExp), api.MinExp)}, true
	}
	if s.exp > api.MaxExp+1000 {
		// Too great anyhow, but for 0; and far from where ints go round.
		s.exp = api.MaxExp + 1000
	}
	f := max(s.exp, api.MinExp)
	// With a lower exponent there are surely more than 34 digits.
	f = max(f, s.exp+len(s.x.String())-api.MaxDigits-1)
	steps := s.rounded(f-s.exp, m)
	for steps.Cmp(tenTo(api.MaxDigits)) >= 0 {
		f++
		steps = s.rounded(f-s.exp, m)
	}
	if steps.Sign() == 0 {
		return dec.Dec{Exp: min(f, api.MaxExp)}, true
	}
	if f > api.MaxExp {
		for len(steps.String()) < api.MaxDigits {
			steps.Mul(steps, big.NewInt(10))
			f--
		}
	}
	if f > api.MaxExp {
		return dec.Dec{}, false
	}
	return dec.Dec{Neg: s.neg, Coef: uOf(steps), Exp: f}, true
}

// at is a number as a multiple of 10^e, with its sign.
func at(a dec.Dec, e int) *big.Int {
	x := bigOf(a.Coef)
	x.Mul(x, tenTo(a.Exp-e))
	if a.Neg {
		x.Neg(x)
	}
	return x
}

func addModel(a, b dec.Dec) (dec.Dec, bool) {
	e := min(a.Exp, b.Exp)
	x := new(big.Int).Add(at(a, e), at(b, e))
	return size{neg: x.Sign() < 0, x: new(big.Int).Abs(x), exp: e}.fitted(dec.HalfEven)
}

func mulModel(a, b dec.Dec) (dec.Dec, bool) {
	x := new(big.Int).Mul(bigOf(a.Coef), bigOf(b.Coef))
	return size{neg: a.Neg != b.Neg, x: x, exp: a.Exp + b.Exp}.fitted(dec.HalfEven)
}

func cmpModel(a, b dec.Dec) int {
	e := min(a.Exp, b.Exp)
	return at(a, e).Cmp(at(b, e))
}

// digitRun is some digits, such that noughts, nines and fives stand together often.
func digitRun(r *rand.Rand, n int) string {
	var b strings.Builder
	for b.Len() < n {
		k := 1 + r.Intn(n-b.Len())
		switch r.Intn(5) {
		case 0:
			b.WriteString(strings.Repeat("0", k))
		case 1:
			b.WriteString(strings.Repeat("9", k))
		case 2:
			b.WriteString("5")
		default:
			for range min(k, 6) {
				b.WriteByte(byte('0' + r.Intn(10)))
			}
		}
	}
	return b.String()
}

// someDec is a number; most often its exponent is not far from the middle one.
func someDec(r *rand.Rand, middle int) dec.Dec {
	d := dec.Dec{Coef: coef("0" + digitRun(r, r.Intn(api.MaxDigits+1)))}
	d.Neg = !d.Zero() && r.Intn(2) == 1
	d.Exp = middle + r.Intn(161) - 80
	if r.Intn(20) == 0 {
		d.Exp = api.MinExp + r.Intn(api.MaxExp-api.MinExp+1)
	}
	d.Exp = max(min(d.Exp, api.MaxExp), api.MinExp)
	return d
}

// edges are numbers that stand at an edge by their digits, with each sign and with exponents at an edge.
func edges() []dec.Dec {
	var out []dec.Dec
	digits := []string{"0", "1", "5", "9", "10", "15", "5000000000000000000000000000000000", "5000000000000000000000000000000001", ten33, "9999999999999999999999999999999995", nines34}
	exps := []int{api.MinExp, api.MinExp + 1, api.MinExp + 33, -3088, -39, -38, -34, -1, 0, 1, 4, 34, 38, 3056, api.MaxExp - 33, api.MaxExp - 1, api.MaxExp}
	for _, s := range digits {
		for _, e := range exps {
			a := dec.Dec{Coef: coef(s), Exp: e}
			out = append(out, a)
			if !a.Zero() {
				a.Neg = true
				out = append(out, a)
			}
		}
	}
	return out
}

// noNumbers are Decs that are no numbers.
func noNumbers() []dec.Dec {
	top := wide.U{Hi: 1<<64 - 1, Lo: 1<<64 - 1}
	out := []dec.Dec{
		{Neg: true},
		{Neg: true, Exp: api.MinExp},
		{Neg: true, Exp: api.MaxExp},
		{Coef: coef(ten34)},
		{Neg: true, Coef: coef(ten34), Exp: api.MaxExp},
		{Coef: wide.U{Hi: 1 << 63}},
	}
	for _, e := range []int{math.MinInt, math.MinInt + 1, -1 << 62, -1 << 20, api.MinExp - 1, api.MaxExp + 1, 1 << 20, 1 << 62, math.MaxInt - 1, math.MaxInt} {
		for _, c := range []wide.U{{}, wide.Of(1), coef(nines34), coef(ten34), top} {
			out = append(out, dec.Dec{Coef: c, Exp: e}, dec.Dec{Neg: true, Coef: c, Exp: e})
		}
	}
	return append(out, dec.Dec{Coef: top}, dec.Dec{Neg: true, Coef: top})
}
