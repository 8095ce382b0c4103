package quot_test

import (
	"math"
	"math/rand"
	"strconv"
	"testing"

	"casuist/dec"
	"casuist/quot"
)

type raised struct {
	a    string
	n    int
	want string
}

func checkPowers(t *testing.T, all []raised) {
	t.Helper()
	for _, c := range all {
		got, ok := quot.Power(num(c.a), c.n)
		answered(t, "Power("+c.a+", "+strconv.Itoa(c.n)+")", got, ok, c.want)
	}
}

func TestP32Power(t *testing.T) {
	checkPowers(t, []raised{
		{"2", 10, "1024"},
		{"2", 2, "4"},
		{"-3", 3, "-27"},
		{"-3", 4, "81"},
		{"1.5", 2, "2.25"},
		{"1.50", 3, "3.375000"},
		{"20", 3, "8000"},
		{"2E1", 3, "8E3"},
		{"0.1", 5, "0.00001"},
		{"1.0", 33, ten33 + "E-33"},
		{"1.0", 34, ten33 + "E-33"},
		{"1.00", 17, ten33 + "E-33"},
		{"3", 71, "7509466514979724803946715958257547"},
	})
}

func TestP32PowerOfNoughtAndOne(t *testing.T) {
	checkPowers(t, []raised{
		{"0", 0, "1"},
		{"0.00", 0, "1"},
		{"7", 0, "1"},
		{"-7.5E100", 0, "1"},
		{nines34 + "E6111", 0, "1"},
		{"1E-6176", 0, "1"},
		{"7", 1, "7"},
		{"-7.50", 1, "-7.50"},
		{"0.00", 1, "0.00"},
		{nines34 + "E6111", 1, nines34 + "E6111"},
		{"1E-6176", 1, "1E-6176"},
		{"-" + nines34 + "E-6176", 1, "-" + nines34 + "E-6176"},
		{"0", 2, "0"},
		{"0.0", 3, "0.000"},
		{"0E5", 3, "0E15"},
		{"0", 999999999, "0"},
		{"0E1", 999999999, "0E6111"},
		{"0E-1", 999999999, "0E-6176"},
		{"0", -1, ""},
		{"0.00", -2, ""},
		{"0E6111", -999999999, ""},
	})
}

// Each product is rounded, from the highest bit of n on: the powers as they are, or multiplied otherwise, have other last digits.
func TestP32PowerRoundsEachProduct(t *testing.T) {
	checkPowers(t, []raised{
		{"3", 72, "2252839954493917441184014787477264E1"},
		{"7", 43, "2183814375991796599109312252753832E3"},
		{"1.1", 100, "1378061233982227018411833717208963E-29"},
		{"-1.1", 101, "-1515867357380449720253017088929859E-29"},
		{"1.7", 1000, "2811391829027400931732551934605150E197"},
		{"123456789.987654321", 7, "4371242140998410393390043669251018E23"},
		{"1.000000001", 999999999, "2718281824381622497995021479819025E-33"},
		{"0.999999999", 999999999, "3678794413553820422885431001142054E-34"},
		{"1.000000000000000000000000000000001", 999999999, "1000000000000000000000000999999999E-33"},
	})
}

func TestP32PowerBelowNought(t *testing.T) {
	checkPowers(t, []raised{
		{"2", -2, "0.25"},
		{"2", -1, "0.5"},
		{"0.5", -1, "2"},
		{"10", -3, "0.001"},
		{"1E1", -3, "1E-3"},
		{"0.1", -3, "1E3"},
		{"-2", -3, "-0.125"},
		{"-2", -4, "0.0625"},
		{"1.0", -1, "1"},
		{"3", -1, "3333333333333333333333333333333333E-34"},
		{"3", -2, "1111111111111111111111111111111111E-34"},
		{"7", -3, "2915451895043731778425655976676385E-36"},
		{"1.1", -100, "7256571590148200129447161043984039E-38"},
		{"2", -113, "9629649721936179265279889712924638E-68"},
		{"1E6111", -1, "1E-6111"},
		{"1E-6111", -1, "1E6111"},
		{"1E-6144", -1, ten33 + "E6111"},
		{"1E-6145", -1, ""},
		{"1E-6176", -1, ""},
	})
}

func TestP32PowerBounds(t *testing.T) {
	checkPowers(t, []raised{
		{"1", 999999999, "1"},
		{"1", -999999999, "1"},
		{"-1", 999999999, "-1"},
		{"-1", -999999999, "-1"},
		{"-1", 999999998, "1"},
		{"1.0", 999999999, ten33 + "E-33"},
		{"1", 1000000000, ""},
		{"1", -1000000000, ""},
		{"0", 1000000000, ""},
		{"-1", 1000000001, ""},
		{"1", 1 << 31, ""},
		{"1", -1 << 31, ""},
		{"1", 1 << 32, ""},
		{"1", math.MaxInt, ""},
		{"1", math.MinInt, ""},
		{"1", math.MinInt + 1, ""},
	})
}

func TestP32PowerTooGreat(t *testing.T) {
	checkPowers(t, []raised{
		{"10", 6144, ten33 + "E6111"},
		{"10", 6145, ""},
		{"1E1", 6111, "1E6111"},
		{"1E1", 6144, ten33 + "E6111"},
		{"1E1", 6145, ""},
		{"-1E1", 6145, ""},
		{"2", 20413, "8419794440777613278010471518281614E6111"},
		{"2", 20414, ""},
		{"2", 999999999, ""},
		{"-2", 999999999, ""},
		{"1.1", 999999999, ""},
		{nines34 + "E6111", 2, ""},
		{"1E3073", 2, ""},
		{"1E3072", 2, ten33 + "E6111"},
		// 1 by what is too great is not reckoned, small though it would be
		{"10", -6145, ""},
		{"1E3073", -2, ""},
		{"2", -20414, ""},
		{"2", -999999999, ""},
		// what is too small gets 0, and 1 by that is not there
		{"0.1", 6176, "1E-6176"},
		{"0.1", 6177, "0E-6176"},
		{"0.1", 999999999, "0E-6176"},
		{"-0.5", 999999999, "0E-6176"},
		{"0.1", -6144, ten33 + "E6111"},
		{"0.1", -6145, ""},
		{"0.1", -6176, ""},
		{"0.1", -6177, ""},
		{"-0.5", -999999999, ""},
	})
}

func TestP32PowerModel(t *testing.T) {
	check := func(a dec.Dec, n int) {
		got, ok := quot.Power(a, n)
		want, may := powerModel(a, n)
		if got != want || ok != may {
			t.Errorf("Power(%s, %d) = %s, %v, not %s, %v", told(a), n, told(got), ok, told(want), may)
		}
	}
	r := rand.New(rand.NewSource(32))
	for range 1500 {
		a := someDec(r, -17)
		check(a, r.Intn(41)-20)
		check(a, r.Intn(1<<uint(1+r.Intn(30)))-1<<14)
		// About 1, so that great powers are not too great.
		near := dec.Dec{Coef: coef(ten33), Exp: -33}
		near.Coef.Lo += uint64(r.Int63())
		near.Neg = r.Intn(2) == 1
		check(near, r.Intn(2*1000000100)-1000000100)
	}
	for _, a := range edges() {
		for _, n := range []int{-999999999, -3, -2, -1, 0, 1, 2, 3, 4, 999999999} {
			check(a, n)
		}
	}
}

func TestW1PowerOfNoNumbers(t *testing.T) {
	for _, a := range noNumbers() {
		for _, n := range []int{math.MinInt, -1000000000, -999999999, -2, -1, 0, 1, 2, 3, 999999999, math.MaxInt} {
			got, ok := quot.Power(a, n)
			if beyond := n < -999999999 || n > 999999999; beyond && (ok || got != dec.Dec{}) {
				t.Errorf("Power(%s, %d) = %s, %v", told(a), n, told(got), ok)
			}
		}
	}
}
