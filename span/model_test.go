package span_test

import (
	"math"
	"math/big"
	"math/rand"
	"strconv"
	"strings"
	"testing"
	"time"

	"casuist/api"
	"casuist/civil"
	"casuist/clock"
	"casuist/dec"
	"casuist/wide"
)

// What the chapter's words say, done plainly, with math/big for the numbers and package time for the calendar, for the tests to hold the package against.

const (
	most    = 1 << 53
	nines34 = "9999999999999999999999999999999999"
	ten33   = "1000000000000000000000000000000000"
	ten34   = "10000000000000000000000000000000000"
)

func TestLimits(t *testing.T) {
	if api.MaxSpan != most || api.MaxYear != 999999999 || api.MaxDigits != 34 || api.MinExp != -6176 || api.MaxExp != 6111 || clock.Day != 86400 {
		t.Error("the tests of this package are written for other limits")
	}
}

func bigOf(a wide.U) *big.Int {
	x := new(big.Int).SetUint64(a.Hi)
	return x.Lsh(x, 64).Or(x, new(big.Int).SetUint64(a.Lo))
}

// uOf is x's low 128 bits.
func uOf(x *big.Int) wide.U {
	word := new(big.Int).SetUint64(1<<64 - 1)
	lo := new(big.Int).And(x, word)
	hi := new(big.Int).Rsh(x, 64)
	return wide.U{Hi: hi.And(hi, word).Uint64(), Lo: lo.Uint64()}
}

func tenTo(n int) *big.Int { return new(big.Int).Exp(big.NewInt(10), big.NewInt(int64(n)), nil) }

// num is a Dec told as a text, just as it stands there: -1.50E3 is -150 by 10^1.
func num(s string) dec.Dec {
	digits, neg := strings.CutPrefix(s, "-")
	digits, exp, told := strings.Cut(digits, "E")
	d := dec.Dec{Neg: neg}
	if told {
		e, err := strconv.Atoi(exp)
		if err != nil {
			panic(err)
		}
		d.Exp = e
	}
	whole, places, _ := strings.Cut(digits, ".")
	d.Exp -= len(places)
	x, ok := new(big.Int).SetString(whole+places, 10)
	if !ok {
		panic("no digits: " + s)
	}
	d.Coef = uOf(x)
	return d
}

// told is a Dec as a text, for what a test complains of.
func told(d dec.Dec) string {
	s := d.Coef.Text() + "E" + strconv.Itoa(d.Exp)
	if d.Neg {
		return "-" + s
	}
	return s
}

// ratOf is a number's value, all of it.
func ratOf(d dec.Dec) *big.Rat {
	x := new(big.Rat).SetInt(bigOf(d.Coef))
	if d.Neg {
		x.Neg(x)
	}
	if d.Exp < 0 {
		return x.Quo(x, new(big.Rat).SetInt(tenTo(-d.Exp)))
	}
	return x.Mul(x, new(big.Rat).SetInt(tenTo(d.Exp)))
}

// steps is how many steps of 10^e a value is, below it, and whether it is no more than that.
func steps(x *big.Rat, e int) (*big.Int, *big.Rat) {
	by := new(big.Rat).SetInt(tenTo(max(e, -e)))
	if e >= 0 {
		by.Inv(by)
	}
	by.Mul(by, x)
	n := new(big.Int).Quo(by.Num(), by.Denom())
	return n, by.Sub(by, new(big.Rat).SetInt(n))
}

// rounded is a value above 0 rounded to 34 digits: so many steps of 10^e.
func rounded(x *big.Rat, e int) (*big.Int, int) {
	for ; ; e++ {
		n, rest := steps(x, e)
		if half := rest.Cmp(big.NewRat(1, 2)); half > 0 || half == 0 && n.Bit(0) == 1 {
			n.Add(n, big.NewInt(1))
		}
		if n.Cmp(tenTo(34)) < 0 {
			return n, e
		}
	}
}

// lengthModel is a value, rounded to 34 digits, without its places, if that may be a duration.
func lengthModel(x *big.Rat) (int, bool) {
	size := new(big.Rat).Abs(x)
	if size.Cmp(new(big.Rat).SetInt(tenTo(17))) > 0 {
		return 0, false
	}
	if size.Cmp(big.NewRat(1, 1000)) < 0 {
		return 0, true
	}
	n, e := rounded(size, -40)
	if e > 0 {
		panic("of 34 digits and no more than 10^17, without places")
	}
	n.Quo(n, tenTo(-e))
	if n.Cmp(big.NewInt(most)) > 0 {
		return 0, false
	}
	return int(n.Int64()) * x.Sign(), true
}

func mayModel(n int) bool { return big.NewInt(int64(n)).CmpAbs(big.NewInt(most)) <= 0 }

func addModel(a, b int) (int, bool) {
	sum := new(big.Int).Add(big.NewInt(int64(a)), big.NewInt(int64(b)))
	if !mayModel(a) || !mayModel(b) || sum.CmpAbs(big.NewInt(most)) > 0 {
		return 0, false
	}
	return int(sum.Int64()), true
}

func timesModel(n int, d dec.Dec) (int, bool) {
	if !mayModel(n) {
		return 0, false
	}
	return lengthModel(new(big.Rat).Mul(new(big.Rat).SetInt64(int64(n)), ratOf(d)))
}

func overModel(n int, d dec.Dec) (int, bool) {
	if !mayModel(n) || d.Coef == (wide.U{}) {
		return 0, false
	}
	return lengthModel(new(big.Rat).Quo(new(big.Rat).SetInt64(int64(n)), ratOf(d)))
}

// ratioModel tries one place after another, till the ratio needs no more of them, or has 34 digits.
func ratioModel(a, b int) (dec.Dec, bool) {
	if !mayModel(a) || !mayModel(b) || b == 0 {
		return dec.Dec{}, false
	}
	x := big.NewRat(int64(a), int64(b))
	neg := x.Sign() < 0
	x.Abs(x)
	for e := 0; ; e-- {
		n, rest := steps(x, e)
		if n.Cmp(tenTo(34)) >= 0 {
			break
		}
		if rest.Sign() == 0 {
			return dec.Dec{Neg: neg, Coef: uOf(n), Exp: e}, true
		}
	}
	n, e := rounded(x, -100)
	return dec.Dec{Neg: neg, Coef: uOf(n), Exp: e}, true
}

// partsModel takes away the greatest parts first, on the side on which n is.
func partsModel(n int) [4]int {
	var out [4]int
	left, sign := big.NewInt(int64(n)), int64(1)
	if n < 0 {
		sign = -1
	}
	for i, part := range []int64{24 * 60 * 60, 60 * 60, 60, 1} {
		size, rest := new(big.Int).QuoRem(new(big.Int).Abs(left), big.NewInt(part), new(big.Int))
		out[i] = int(size.Int64() * sign)
		left = rest
	}
	return out
}

func on(y, m, d int) civil.Date { return civil.Date{Year: y, Month: m, Day: d} }

func first() civil.Date { return on(-999999999, 1, 1) }

func last() civil.Date { return on(999999999, 12, 31) }

// secondsOf lets package time lay the day out: one that is not there becomes another one.
func secondsOf(d civil.Date) (int, bool) {
	if d.Year < -999999999 || d.Year > 999999999 || d.Month < 1 || d.Month > 12 || d.Day < 1 || d.Day > 31 {
		return 0, false
	}
	there := time.Date(d.Year, time.Month(d.Month), d.Day, 0, 0, 0, 0, time.UTC)
	if there.Day() != d.Day {
		return 0, false
	}
	return int(there.Unix()), true
}

func dateLaterModel(d civil.Date, n int) (civil.Date, bool) {
	from, ok := secondsOf(d)
	if !ok || !mayModel(n) {
		return civil.Date{}, false
	}
	there := time.Unix(int64(from+n), 0).UTC()
	if there.Year() < -999999999 || there.Year() > 999999999 {
		return civil.Date{}, false
	}
	return on(there.Year(), int(there.Month()), there.Day()), true
}

func datesBetweenModel(a, b civil.Date) (int, bool) {
	from, okA := secondsOf(a)
	to, okB := secondsOf(b)
	if !okA || !okB {
		return 0, false
	}
	return to - from, true
}

// monthsBetweenModel lays the months out as if each had 31 days: then a whole month is always as long.
func monthsBetweenModel(a, b civil.Date) (int, bool) {
	n, ok := datesBetweenModel(a, b)
	if !ok {
		return 0, false
	}
	behind := laidOut(b) - laidOut(a)
	if n < 0 {
		return -(-behind / 31), true
	}
	return behind / 31, true
}

func laidOut(d civil.Date) int { return (d.Year*12+d.Month-1)*31 + d.Day - 1 }

// edgeInts are numbers at an edge of something, the ends of int among them.
func edgeInts() []int {
	return []int{
		math.MinInt, math.MinInt + 1, math.MinInt + most - 1, math.MinInt + most, math.MinInt + most + 1, -1 << 62, -1 << 54, -most - 1, -most, -most + 1, -most / 2, -1 << 32,
		-90061, -86401, -86400, -86399, -3601, -3600, -3599, -61, -60, -59, -7, -2, -1,
		0, 1, 2, 7, 59, 60, 61, 3599, 3600, 3601, 86399, 86400, 86401, 90061,
		1 << 32, most / 2, most - 1, most, most + 1, 1 << 54, 1 << 62, math.MaxInt - most - 1, math.MaxInt - most, math.MaxInt - most + 1, math.MaxInt - 1, math.MaxInt,
	}
}

// tooLong are durations that may not be.
func tooLong() []int {
	return []int{most + 1, -most - 1, most + 2, 1 << 54, -1 << 54, 1 << 62, -1 << 62, math.MaxInt, math.MaxInt - 1, math.MinInt, math.MinInt + 1}
}

// edgeNumbers are numbers at an edge: of their digits, of their exponent, of what durations come to.
func edgeNumbers() []dec.Dec {
	var out []dec.Dec
	for _, s := range []string{
		"0", "0.00", "0E-6176", "0E6111", "1", "1.00", "2", "3", "7", "10", "0.1", "0.5", "0.50", "0.25", "1.5", "2.5", "0.9", "0.99", "1.01",
		"0." + nines34, "1." + nines34[1:], nines34, ten33, "1." + ten33[2:] + "1", "0.1" + ten33[2:] + "1", "9." + ten33[2:] + "1", "0.3333333333333333333333333333333333", "3.333333333333333333333333333333333", "0.6666666666666666666666666666666667",
		"1E-6176", nines34 + "E-6176", "1E-100", "1E-53", "1E-34", "1E-17", "1E-16", "1E-15", "1E15", "1E16", "1E17", "1E34", "1E100", "1E6111", nines34 + "E6111",
		"9007199254740992", "9007199254740993", "9007199254740991", "9007199254740992.5", "9007199254740992.999999999999999999", "9007199254740991.999999999999999999", "4503599627370496", "4503599627370496.5", "9223372036854775807", "9223372036854775808", "18446744073709551616", "18446744073709551617",
	} {
		out = append(out, num(s))
		if d := num(s); d.Coef != (wide.U{}) {
			d.Neg = true
			out = append(out, d)
		}
	}
	return out
}

// noNumbers are such as may not be: for their sign, their digits, their exponent.
func noNumbers() []dec.Dec {
	top := wide.U{Hi: 1<<64 - 1, Lo: 1<<64 - 1}
	return []dec.Dec{
		{Neg: true}, {Neg: true, Exp: 6111}, num(ten34), num("-" + ten34), {Coef: top}, {Neg: true, Coef: top}, {Coef: top, Exp: -6176}, {Coef: top, Exp: 6111},
		{Coef: wide.Of(1), Exp: 6112}, {Coef: wide.Of(1), Exp: -6177}, {Exp: 6112}, {Exp: -6177},
		{Coef: wide.Of(1), Exp: math.MaxInt}, {Coef: wide.Of(1), Exp: math.MinInt}, {Coef: top, Exp: math.MaxInt}, {Neg: true, Coef: top, Exp: math.MinInt}, {Exp: math.MaxInt}, {Exp: math.MinInt}, {Neg: true, Exp: math.MinInt},
	}
}

// someSpan is a duration: of any length up to the most, and sometimes one a little beyond.
func someSpan(r *rand.Rand) int {
	if r.Intn(8) == 0 {
		all := edgeInts()
		return all[r.Intn(len(all))]
	}
	return (r.Intn(2*most) - most) >> r.Intn(54)
}

// someNumber is a number of any length, whose exponent is such that durations come to durations by it.
func someNumber(r *rand.Rand) dec.Dec {
	if r.Intn(8) == 0 {
		all := edgeNumbers()
		return all[r.Intn(len(all))]
	}
	n := 1 + r.Intn(34)
	x := new(big.Int).Rand(r, tenTo(n))
	if r.Intn(4) == 0 {
		// Of nines and noughts: next to a whole number.
		x = new(big.Int).Add(tenTo(n-1), big.NewInt(int64(r.Intn(5)-2)))
		x.Abs(x)
	}
	d := dec.Dec{Coef: uOf(x), Exp: r.Intn(12) - 6 - n}
	d.Neg = x.Sign() != 0 && r.Intn(2) == 0
	return d
}

// edgeDays are days at an edge of a month, a year, of all years.
func edgeDays() []civil.Date {
	return []civil.Date{
		first(), on(-999999999, 1, 2), on(-999999999, 1, 31), on(-999999999, 2, 28), on(-999999999, 12, 31),
		on(-1, 12, 31), on(0, 1, 1), on(0, 2, 29), on(0, 12, 31), on(1, 1, 1), on(1900, 2, 28), on(1900, 3, 1), on(1969, 12, 31), on(1970, 1, 1), on(2000, 2, 29),
		on(2023, 1, 31), on(2023, 2, 28), on(2023, 3, 1), on(2023, 3, 31), on(2023, 4, 30), on(2023, 12, 31), on(2024, 1, 1), on(2024, 1, 28), on(2024, 1, 29), on(2024, 1, 30), on(2024, 1, 31), on(2024, 2, 1), on(2024, 2, 28), on(2024, 2, 29), on(2024, 3, 1), on(2024, 3, 31), on(2024, 12, 31), on(2025, 1, 1), on(2025, 2, 28),
		on(999999999, 1, 1), on(999999999, 11, 30), on(999999999, 12, 1), on(999999999, 12, 30), last(),
	}
}

// noDays are days that there are not.
func noDays() []civil.Date {
	return []civil.Date{
		{}, on(2023, 2, 29), on(2024, 2, 30), on(1900, 2, 29), on(2024, 4, 31), on(2024, 1, 32), on(2024, 1, 0), on(2024, 1, -1), on(2024, 0, 1), on(2024, 13, 1), on(2024, -1, 1),
		on(1000000000, 1, 1), on(-1000000000, 12, 31),
		on(math.MaxInt, 1, 1), on(math.MinInt, 1, 1), on(2024, math.MaxInt, 1), on(2024, math.MinInt, 1), on(2024, 1, math.MaxInt), on(2024, 1, math.MinInt), on(math.MinInt, math.MinInt, math.MinInt), on(math.MaxInt, math.MaxInt, math.MaxInt),
	}
}

// someDay is a day of any year, or of one not far from 2024 or from the first or the last one.
func someDay(r *rand.Rand) civil.Date {
	years := []int{r.Intn(2*999999999+1) - 999999999, 2014 + r.Intn(20), 2023 + r.Intn(2), 999999999 - r.Intn(20), -999999999 + r.Intn(20)}
	d := on(years[r.Intn(len(years))], 1+r.Intn(12), 31-r.Intn(31)*r.Intn(2))
	for {
		if _, ok := secondsOf(d); ok {
			return d
		}
		d.Day--
	}
}
