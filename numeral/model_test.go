package numeral_test

import (
	"math"
	"math/big"
	"math/rand"
	"regexp"
	"strconv"
	"strings"
	"testing"

	"casuist/api"
	"casuist/dec"
	"casuist/numeral"
	"casuist/wide"
)

// What the chapter's words say, done plainly with math/big and regexp, for the tests to hold the package against.

const (
	nines34 = "9999999999999999999999999999999999"
	nines33 = "999999999999999999999999999999999"
	ones34  = "1111111111111111111111111111111111"
	ten33   = "1000000000000000000000000000000000"
	ten34   = "10000000000000000000000000000000000"
)

func noughts(n int) string { return strings.Repeat("0", n) }

// uOf is x's low 128 bits.
func uOf(x *big.Int) wide.U {
	word := new(big.Int).SetUint64(1<<64 - 1)
	lo := new(big.Int).And(x, word)
	hi := new(big.Int).Rsh(x, 64)
	return wide.U{Hi: hi.And(hi, word).Uint64(), Lo: lo.Uint64()}
}

func tenTo(n int) *big.Int { return new(big.Int).Exp(big.NewInt(10), big.NewInt(int64(n)), nil) }

func bigOf(digits string) *big.Int {
	x, ok := new(big.Int).SetString(digits, 10)
	if !ok {
		panic("no digits: " + digits)
	}
	return x
}

// by is a Dec told by its coefficient, with a sign or none, and its exponent.
func by(coef string, exp int) dec.Dec {
	digits, below := strings.CutPrefix(coef, "-")
	return dec.Dec{Neg: below, Coef: uOf(bigOf(digits)), Exp: exp}
}

// told is a Dec as a text, for what a test complains of.
func told(d dec.Dec) string {
	s := d.Coef.Text() + " by 10^" + strconv.Itoa(d.Exp)
	if d.Neg {
		return "-" + s
	}
	return s
}

// short is a text for what a test complains of.
func short(s string) string {
	if len(s) > 120 {
		return strconv.Quote(s[:50]) + ".." + strconv.Quote(s[len(s)-50:])
	}
	return strconv.Quote(s)
}

var shapes = regexp.MustCompile(`\A(?:([0-9]+)|([0-9]*)\.([0-9]+))(?:E([+-]?[0-9]{1,6}))?\z`)

func shapeModel(s string) bool { return shapes.MatchString(s) }

func readModel(s string) (dec.Dec, bool) {
	parts := shapes.FindStringSubmatch(s)
	if parts == nil {
		return dec.Dec{}, false
	}
	exp := 0
	if parts[4] != "" {
		e, err := strconv.Atoi(parts[4])
		if err != nil {
			panic(err)
		}
		exp = e
	}
	return fitModel(bigOf(parts[1]+parts[2]+parts[3]), exp-len(parts[3]))
}

func signedModel(s string) (dec.Dec, bool) {
	if s == "" || s[0] != '-' {
		return readModel(s)
	}
	d, ok := readModel(s[1:])
	d.Neg = d.Coef != wide.U{}
	return d, ok
}

// fitModel is a size, times 10^exp, fitted by HalfEven.
func fitModel(size *big.Int, exp int) (dec.Dec, bool) {
	if size.Sign() == 0 {
		return dec.Dec{Exp: max(min(exp, api.MaxExp), api.MinExp)}, true
	}
	f := max(exp, api.MinExp)
	// With a lower exponent there are surely more than 34 digits.
	f = max(f, exp+len(size.String())-api.MaxDigits-1)
	steps := nearest(size, f-exp)
	for steps.Cmp(tenTo(api.MaxDigits)) >= 0 {
		f++
		steps = nearest(size, f-exp)
	}
	if steps.Sign() == 0 {
		return dec.Dec{Exp: f}, true
	}
	if f > api.MaxExp {
		n := api.MaxDigits - len(steps.String())
		steps.Mul(steps, tenTo(n))
		f -= n
	}
	if f > api.MaxExp {
		return dec.Dec{}, false
	}
	return dec.Dec{Coef: uOf(steps), Exp: f}, true
}

// nearest is how many times 10^n goes into a size, rounded by HalfEven.
func nearest(size *big.Int, n int) *big.Int {
	// Where a step has more noughts than that, nothing comes out otherwise.
	step := tenTo(min(n, len(size.String())+2))
	near, rest := new(big.Int).QuoRem(size, step, new(big.Int))
	half := rest.Lsh(rest, 1).Cmp(step)
	if half > 0 || half == 0 && near.Bit(0) == 1 {
		near.Add(near, big.NewInt(1))
	}
	return near
}

func textModel(d dec.Dec) string {
	x := new(big.Int).SetUint64(d.Coef.Hi)
	x.Lsh(x, 64).Or(x, new(big.Int).SetUint64(d.Coef.Lo))
	s := x.String()
	if d.Exp >= -40 && d.Exp <= -1 {
		for len(s) < 1-d.Exp {
			s = "0" + s
		}
		s = s[:len(s)+d.Exp] + "." + s[len(s)+d.Exp:]
	} else if d.Exp != 0 {
		s += "E" + strconv.Itoa(d.Exp)
	}
	if d.Neg && x.Sign() != 0 {
		s = "-" + s
	}
	return s
}

var (
	plainWhole = regexp.MustCompile(`\A(0|[1-9][0-9]{0,33})(?:E(-?[1-9][0-9]{0,3}))?\z`)
	plainPoint = regexp.MustCompile(`\A(0|[1-9][0-9]*)\.([0-9]{1,40})\z`)
)

// plainModel tells whether a text is one that Text may tell, by what those look like.
func plainModel(s string) bool {
	size, below := strings.CutPrefix(s, "-")
	if below && strings.Trim(strings.Split(size, "E")[0], "0.") == "" {
		return false
	}
	if parts := plainWhole.FindStringSubmatch(size); parts != nil {
		if parts[2] == "" {
			return true
		}
		e, err := strconv.Atoi(parts[2])
		if err != nil {
			panic(err)
		}
		return e >= -6176 && e <= 6111 && (e < -40 || e > 0)
	}
	if parts := plainPoint.FindStringSubmatch(size); parts != nil {
		return len(strings.TrimLeft(parts[1]+parts[2], "0")) <= 34
	}
	return false
}

// checkAll holds what all calls answer of a text against the models.
func checkAll(t *testing.T, s string) {
	t.Helper()
	if got, want := numeral.Shape(s), shapeModel(s); got != want {
		t.Errorf("Shape(%s) = %v", short(s), got)
	}
	d, ok := numeral.Read(s)
	if want, may := readModel(s); d != want || ok != may {
		t.Errorf("Read(%s) = %s, %v, not %s, %v", short(s), told(d), ok, told(want), may)
	}
	if !d.May() {
		t.Errorf("Read(%s) = %s, which is no number", short(s), told(d))
	}
	d, ok = numeral.Signed(s)
	if want, may := signedModel(s); d != want || ok != may {
		t.Errorf("Signed(%s) = %s, %v, not %s, %v", short(s), told(d), ok, told(want), may)
	}
	if !d.May() {
		t.Errorf("Signed(%s) = %s, which is no number", short(s), told(d))
	}
	if got, want := numeral.Plain(s), plainModel(s); got != want {
		t.Errorf("Plain(%s) = %v", short(s), got)
	}
}

// digitRun is some digits, such that noughts, nines and fives stand together often.
func digitRun(r *rand.Rand, n int) string {
	var b strings.Builder
	for b.Len() < n {
		k := 1 + r.Intn(n-b.Len())
		switch r.Intn(5) {
		case 0:
			b.WriteString(noughts(k))
		case 1:
			b.WriteString(strings.Repeat("9", k))
		case 2:
			b.WriteString("5")
		default:
			for range min(k, 6) {
				b.WriteByte(byte('0' + r.Intn(10)))
			}
		}
	}
	return b.String()
}

// someDec is a number; most often its exponent is not far from the middle one.
func someDec(r *rand.Rand, middle, spread int) dec.Dec {
	d := by("0"+digitRun(r, r.Intn(api.MaxDigits+1)), 0)
	d.Neg = !d.Zero() && r.Intn(2) == 1
	d.Exp = middle + r.Intn(2*spread+1) - spread
	d.Exp = max(min(d.Exp, api.MaxExp), api.MinExp)
	return d
}

// someNumeral is a text that has a number's form, most often.
func someNumeral(r *rand.Rand, most int) string {
	s := digitRun(r, r.Intn(most+1))
	if r.Intn(3) > 0 {
		at := r.Intn(len(s) + 1)
		s = s[:at] + "." + s[at:]
	}
	if r.Intn(2) == 0 {
		s += "E" + []string{"", "+", "-"}[r.Intn(3)] + powerText(r)
	}
	if r.Intn(5) == 0 {
		s = "-" + s
	}
	return s
}

// powerText is some digits of an exponent: few of them, or such that the number is at an edge.
func powerText(r *rand.Rand) string {
	switch r.Intn(3) {
	case 0:
		return strconv.Itoa(6080 + r.Intn(140))
	case 1:
		return strconv.Itoa(r.Intn(60))
	}
	return digitRun(r, r.Intn(8))
}

// edges are numbers that stand at an edge by their digits, with each sign and with exponents at an edge.
func edges() []dec.Dec {
	var out []dec.Dec
	digits := []string{"0", "1", "5", "10", "25", "100", "18446744073709551615", "18446744073709551616", ten33, "9999999999999999999999999999999990", nines33, nines34}
	exps := []int{api.MinExp, api.MinExp + 1, -1000, -100, -42, -41, -40, -39, -35, -34, -33, -32, -3, -2, -1, 0, 1, 2, 33, 34, 39, 40, 41, 100, 1000, api.MaxExp - 1, api.MaxExp}
	for _, s := range digits {
		for _, e := range exps {
			out = append(out, by(s, e))
			if s != "0" {
				out = append(out, by("-"+s, e))
			}
		}
	}
	return out
}

// noNumbers are Decs that are no numbers.
func noNumbers() []dec.Dec {
	top := wide.U{Hi: 1<<64 - 1, Lo: 1<<64 - 1}
	out := []dec.Dec{{Neg: true, Exp: -1}, {Neg: true, Exp: api.MinExp}, {Neg: true, Exp: api.MaxExp}}
	for _, e := range []int{math.MinInt, math.MinInt + 1, -1 << 62, -1 << 20, api.MinExp - 1, -41, -40, -39, -1, 0, 1, api.MaxExp + 1, 1 << 20, 1 << 62, math.MaxInt - 1, math.MaxInt} {
		for _, c := range []wide.U{{}, wide.Of(1), wide.Of(100), uOf(bigOf(nines34)), uOf(bigOf(ten34)), {Hi: 1 << 63}, top} {
			for _, below := range []bool{false, true} {
				if d := (dec.Dec{Neg: below, Coef: c, Exp: e}); !d.May() {
					out = append(out, d)
				}
			}
		}
	}
	return out
}

// The limits that the tests of this package have written out.
func TestLimits(t *testing.T) {
	if api.MaxDigits != 34 || api.MinExp != -6176 || api.MaxExp != 6111 || numeral.Far != 40 {
		t.Error("the tests of this package are written for other limits")
	}
}
