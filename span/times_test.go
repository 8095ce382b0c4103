package span_test

import (
	"math"
	"math/rand"
	"testing"

	"casuist/dec"
	"casuist/span"
)

type call func(int, dec.Dec) (int, bool)

// checkLength holds what a call makes of a duration and a number.
func checkLength(t *testing.T, name string, f call, n int, d dec.Dec, want int, may bool) {
	t.Helper()
	if got, ok := f(n, d); got != want || ok != may {
		t.Errorf("%s(%d, %s) = %d, %v, not %d, %v", name, n, told(d), got, ok, want, may)
	}
}

// reckoned is a duration, a number, and what comes of both.
type reckoned struct {
	n    int
	d    string
	want int
}

// checkFourWays holds each, and each with the one, the other, and both of the other sign.
func checkFourWays(t *testing.T, name string, f call, all []reckoned) {
	t.Helper()
	for _, x := range all {
		d := num(x.d)
		checkLength(t, name, f, x.n, d, x.want, true)
		checkLength(t, name, f, -x.n, d, -x.want, true)
		if !d.Zero() {
			checkLength(t, name, f, x.n, dec.Neg(d), -x.want, true)
			checkLength(t, name, f, -x.n, dec.Neg(d), x.want, true)
		}
	}
}

func checkNoLength(t *testing.T, name string, f call, n int, d dec.Dec) {
	t.Helper()
	checkLength(t, name, f, n, d, 0, false)
}

func TestP102Times(t *testing.T) {
	checkFourWays(t, "Times", span.Times, []reckoned{
		{3, "1.5", 4},
		{3, "2", 6},
		{3, "2.00", 6},
		{0, "5", 0},
		{5, "0", 0},
		{5, "0.00", 0},
		{5, "0E6111", 0},
		{0, "1E6111", 0},
		{0, nines34 + "E6111", 0},
		{most, "0", 0},
		{7, "1E3", 7000},
		{7, "12E1", 840},
		{86400, "0.5", 43200},
		{86400, "1.25", 108000},
		{1, "1E15", 1000000000000000},
		{3, "3E15", 9000000000000000},
		// Just below and just above a whole number.
		{1, "3.999999999999999999999999999999999", 3},
		{1, "4.000000000000000000000000000000001", 4},
		{10, "0.3999", 3},
		{10, "0.4", 4},
		{10, "0.4001", 4},
		{3, "0.3333333333333333333333333333333333", 0},
		{3, "0.3333333333333333333333333333333334", 1},
		{3, "0.6666666666666666666666666666666667", 2},
		{3, "0.666666666666666666666666666666666", 1},
		// From above and from below to 0.
		{1, "0.999", 0},
		{1, "0.5", 0},
		{1, "0.001", 0},
		{1, "0." + nines34, 0},
		{1, "1E-6176", 0},
		{most, "1E-16", 0},
		{most, "1E-15", 9},
		{most, "1E-6176", 0},
		{most, nines34 + "E-6176", 0},
	})
}

// The product is a number first: what it has beyond 34 digits is rounded, and then its places are dropped.
func TestP102TimesIsRoundedFirst(t *testing.T) {
	checkFourWays(t, "Times", span.Times, []reckoned{
		// 19.999999999999999999999999999999998, of 35 digits, is 20.00000000000000000000000000000000 with 34.
		{6, "3.333333333333333333333333333333333", 20},
		{6, "3.33333333333333333333333333333333", 19},
		{3, "0.6666666666666666666666666666666666", 2},
		{2, "9.999999999999999999999999999999999", 20},
		{4, "9.999999999999999999999999999999999", 40},
		{5, "9.999999999999999999999999999999999", 50},
		{6, "9.999999999999999999999999999999999", 59},
		{10, "9.999999999999999999999999999999999", 99},
		{40, "9.999999999999999999999999999999999", 400},
		{60, "9.999999999999999999999999999999999", 599},
		{86400, "1.999999999999999999999999999999999", 172799},
		{99999, "1.000000000000000000000000000000001", 99999},
	})
}

func TestP102TimesAtTheMost(t *testing.T) {
	checkFourWays(t, "Times", span.Times, []reckoned{
		{most, "1", most},
		{most, "1.000", most},
		{1, "9007199254740992", most},
		{1, "9007199254740992.5", most},
		{1, "9007199254740992.999999999999999999", most},
		{1, "9007199254740991.999999999999999999", most - 1},
		{most / 2, "2", most},
		{most, "0.9999999999999999999999999999999999", most - 1},
		{most, "0.999", 8998192055486251},
		{2, "4503599627370496.4", most},
		{3, "3002399751580330.6", most - 1},
	})
	for _, x := range []struct {
		n int
		d string
	}{
		{most, "1.0000000000000002"},
		{most, "1.5"},
		{most, "2"},
		{most, "9007199254740992"},
		{1, "9007199254740993"},
		{1, "9007199254740993.000"},
		{2, "4503599627370496.5"},
		{1, "1E16"},
		{10, "1E15"},
		{1, "9223372036854775807"},
		{1, "9223372036854775808"},
		{1, "18446744073709551616"},
		{1, "18446744073709551617"},
		{2, "9223372036854775808"},
		{4, "4611686018427387904"},
		{1, nines34},
		{most, nines34},
		{1, "1E34"},
		{1, "1E40"},
		{1, "1E6111"},
		// Too great for a number.
		{most, "1E6111"},
		{most, nines34 + "E6111"},
		{10, nines34 + "E6111"},
		{1, nines34 + "E6111"},
	} {
		d := num(x.d)
		checkNoLength(t, "Times", span.Times, x.n, d)
		checkNoLength(t, "Times", span.Times, -x.n, d)
		checkNoLength(t, "Times", span.Times, x.n, dec.Neg(d))
		checkNoLength(t, "Times", span.Times, -x.n, dec.Neg(d))
	}
}

func TestP102Over(t *testing.T) {
	checkFourWays(t, "Over", span.Over, []reckoned{
		{-7, "2", -3},
		{7, "2.00", 3},
		{6, "2", 3},
		{1, "1", 1},
		{0, "5", 0},
		{0, "1E-6176", 0},
		{0, "1E6111", 0},
		{5, "0.5", 10},
		{86400, "7", 12342},
		{86400, "0.25", 345600},
		{9, "0.001", 9000},
		{12, "12E-1", 10},
		{7, "1E-15", 7000000000000000},
		// Just below and just above a whole number.
		{8, "2.0001", 3},
		{8, "2", 4},
		{8, "1.9999", 4},
		{2, "3", 0},
		{5, "3", 1},
		{3, "1.000000000000000000000000000000001", 2},
		{3, "0.9999999999999999999999999999999999", 3},
		// From above and from below to 0.
		{1, "2", 0},
		{1, "1.000000000000000000000000000000001", 0},
		{1, "1E6111", 0},
		{1, nines34 + "E6111", 0},
		{most, nines34 + "E6111", 0},
		{most, "1E16", 0},
		{most, "1E15", 9},
		{most, "9007199254740993", 0},
		{most, "9007199254740992", 1},
		{most, "9007199254740991", 1},
		{most - 1, "9007199254740992", 0},
	})
}

// The quotient is a number first: what it has beyond 34 digits is rounded, and then its places are dropped.
func TestP102OverIsRoundedFirst(t *testing.T) {
	checkFourWays(t, "Over", span.Over, []reckoned{
		{18, "9.000000000000000000000000000000001", 2},
		{9, "9.000000000000000000000000000000001", 0},
		{90, "9.000000000000000000000000000000001", 9},
		{27, "9.000000000000000000000000000000001", 3},
		{36, "9.000000000000000000000000000000001", 4},
		{45, "9.000000000000000000000000000000001", 4},
		{1800, "9.000000000000000000000000000000001", 200},
		{2, "0.3333333333333333333333333333333334", 5},
		{2, "0.3333333333333333333333333333333333", 6},
	})
}

func TestP102OverAtTheMost(t *testing.T) {
	checkFourWays(t, "Over", span.Over, []reckoned{
		{most, "1", most},
		{most, "1.00", most},
		{most / 2, "0.5", most},
		{most / 4, "0.25", most},
		{most, "1.000000000000000000000000000000001", most - 1},
		{most, "0.9999999999999999999999999999999999", most},
		{most, "2", most / 2},
		{most, "1.0000000000000002", most - 2},
		{4503599627370496, "0.49999999999999999", most},
	})
	for _, x := range []struct {
		n int
		d string
	}{
		{most, "0.5"},
		{most, "0.99999999999999988"},
		{4503599627370497, "0.5"},
		{1, "1E-16"},
		{10, "1E-15"},
		{1, "1E-40"},
		{1, "1E-6000"},
		{1, nines34 + "E-6176"},
		// Too great for a number.
		{1, "1E-6176"},
		{most, "1E-6176"},
		{-most, "1E-6150"},
	} {
		d := num(x.d)
		checkNoLength(t, "Over", span.Over, x.n, d)
		checkNoLength(t, "Over", span.Over, -x.n, d)
		checkNoLength(t, "Over", span.Over, x.n, dec.Neg(d))
		checkNoLength(t, "Over", span.Over, -x.n, dec.Neg(d))
	}
}

func TestP102OverBy0(t *testing.T) {
	for _, n := range edgeInts() {
		for _, s := range []string{"0", "0.00", "0E6111", "0E-6176"} {
			checkNoLength(t, "Over", span.Over, n, num(s))
		}
	}
}

func TestP102OfDurationsThatMayNotBe(t *testing.T) {
	for _, n := range tooLong() {
		for _, d := range edgeNumbers() {
			checkNoLength(t, "Times", span.Times, n, d)
			checkNoLength(t, "Over", span.Over, n, d)
		}
		for _, b := range append(edgeInts(), n) {
			checkRatio(t, n, b, "")
			checkRatio(t, b, n, "")
		}
	}
}

// Of what is no number nothing is promised but that the calls end.
func TestP102OfNoNumbersEnds(t *testing.T) {
	for _, d := range noNumbers() {
		for _, n := range edgeInts() {
			span.Times(n, d)
			span.Over(n, d)
		}
		for _, n := range tooLong() {
			checkNoLength(t, "Times", span.Times, n, d)
			checkNoLength(t, "Over", span.Over, n, d)
		}
	}
}

func TestP102ByTheWords(t *testing.T) {
	check := func(n int, d dec.Dec) {
		t.Helper()
		want, may := timesModel(n, d)
		checkLength(t, "Times", span.Times, n, d, want, may)
		want, may = overModel(n, d)
		checkLength(t, "Over", span.Over, n, d, want, may)
	}
	for _, d := range edgeNumbers() {
		for _, n := range edgeInts() {
			check(n, d)
		}
	}
	r := rand.New(rand.NewSource(103))
	for range 20000 {
		check(someSpan(r), someNumber(r))
	}
}

// A product that is a whole number and a little, or a little less: the number is what makes it so.
func TestP102NextToWholeNumbers(t *testing.T) {
	r := rand.New(rand.NewSource(104))
	for range 5000 {
		n, k := 1+r.Intn(1000), r.Intn(1000)
		quotient, _ := ratioModel(k, n)
		for off := -1; off <= 1; off++ {
			d := quotient
			if off < 0 && !d.Zero() {
				d.Coef.Lo--
			}
			if off > 0 {
				d.Coef.Lo++
			}
			want, may := timesModel(n, d)
			checkLength(t, "Times", span.Times, n, d, want, may)
			want, may = overModel(n, d)
			checkLength(t, "Over", span.Over, n, d, want, may)
		}
	}
}

// checkRatio holds a ratio against a text, or against nothing, if that is empty.
func checkRatio(t *testing.T, a, b int, want string) {
	t.Helper()
	var d dec.Dec
	if want != "" {
		d = num(want)
	}
	if got, ok := span.Ratio(a, b); got != d || ok != (want != "") {
		t.Errorf("Ratio(%d, %d) = %s, %v, not %q", a, b, told(got), ok, want)
	}
}

func TestP102Ratio(t *testing.T) {
	for _, x := range []struct {
		a, b int
		want string
	}{
		// With an end.
		{1, 4, "0.25"},
		{-1, 4, "-0.25"},
		{1, -4, "-0.25"},
		{-1, -4, "0.25"},
		{1, 1, "1"},
		{6, 2, "3"},
		{7, 2, "3.5"},
		{1, 8, "0.125"},
		{100, 1, "100"},
		{100, 10, "10"},
		{1, 100, "0.01"},
		{86400, 3600, "24"},
		{3600, 86400000, "4.166666666666666666666666666666667E-5"},
		{most, 1, "9007199254740992"},
		{-most, 1, "-9007199254740992"},
		{most, most, "1"},
		{most, -most, "-1"},
		{most, 10, "900719925474099.2"},
		{most, 1 << 52, "2"},
		{1, 1 << 40, "9.094947017729282379150390625E-13"},
		// With none, or one that is too far.
		{1, 3, "0.3333333333333333333333333333333333"},
		{-2, 3, "-0.6666666666666666666666666666666667"},
		{10, 3, "3.333333333333333333333333333333333"},
		{20, 3, "6.666666666666666666666666666666667"},
		{22, 7, "3.142857142857142857142857142857143"},
		{1, most, "1.110223024625156540423631668090820E-16"},
		{-1, most, "-1.110223024625156540423631668090820E-16"},
		{1, -most, "-1.110223024625156540423631668090820E-16"},
		{most, 3, "3002399751580330.666666666666666667"},
		{most, most - 1, "1.000000000000000111022302462515666"},
		// Of 0.
		{0, 1, "0"},
		{0, -1, "0"},
		{0, 100, "0"},
		{0, most, "0"},
		{0, -most, "0"},
	} {
		checkRatio(t, x.a, x.b, x.want)
	}
}

func TestP102RatioBy0(t *testing.T) {
	for _, a := range edgeInts() {
		checkRatio(t, a, 0, "")
	}
}

func TestP102RatioByTheWords(t *testing.T) {
	check := func(a, b int) {
		t.Helper()
		want, may := ratioModel(a, b)
		if got, ok := span.Ratio(a, b); got != want || ok != may {
			t.Errorf("Ratio(%d, %d) = %s, %v, not %s, %v", a, b, told(got), ok, told(want), may)
		}
	}
	for _, a := range edgeInts() {
		for _, b := range edgeInts() {
			check(a, b)
		}
	}
	for a := -20; a <= 20; a++ {
		for b := -20; b <= 20; b++ {
			check(a, b)
		}
	}
	r := rand.New(rand.NewSource(105))
	for range 5000 {
		check(someSpan(r), someSpan(r))
		check(r.Intn(100000)-50000, 1<<r.Intn(20)*[]int{1, 5, 25, 125, 625}[r.Intn(5)])
	}
	check(math.MinInt, -1)
}
