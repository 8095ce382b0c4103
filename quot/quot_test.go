package quot_test

import (
	"math/big"
	"math/rand"
	"testing"

	"casuist/api"
	"casuist/dec"
	"casuist/quot"
)

type division struct{ a, b, want string }

func checkDivisions(t *testing.T, all []division) {
	t.Helper()
	for _, c := range all {
		got, ok := quot.Div(num(c.a), num(c.b))
		answered(t, "Div("+c.a+", "+c.b+")", got, ok, c.want)
	}
}

// A quotient that is a multiple of a's exponent less b's keeps it, whatever noughts stand at its end.
func TestP31DivKeepsTheExponent(t *testing.T) {
	checkDivisions(t, []division{
		{"6.0", "2", "3.0"},
		{"6", "2", "3"},
		{"-6", "2", "-3"},
		{"6", "-2", "-3"},
		{"-6", "-2", "3"},
		{"100", "1", "100"},
		{"100", "10", "10"},
		{"1000", "5", "200"},
		{"2.40", "2", "1.20"},
		{"2.40", "0.2", "12.0"},
		{"2.40", "0.20", "12"},
		{"6", "2E-2", "3E2"},
		{"6E5", "2", "3E5"},
		{"6E5", "2E7", "3E-2"},
		{"6E5", "2E-7", "3E12"},
		{nines34, "1", nines34},
		{nines34, nines34, "1"},
		{ten33, "1", ten33},
		{ten33, ten33, "1"},
		{ten33, "2", "5" + ten33[2:]},
		{nines34, "9", "1111111111111111111111111111111111"},
		{"1E6111", "1", "1E6111"},
		{"1E-6176", "1", "1E-6176"},
		{"1E6111", "1E6111", "1"},
		{"1E-6176", "1E-6176", "1"},
		{"1E-3088", "1E3023", "1E-6111"},
	})
}

// One that is a multiple of lower powers alone has the greatest of these.
func TestP31DivExactWithALowerExponent(t *testing.T) {
	checkDivisions(t, []division{
		{"1", "8", "0.125"},
		{"1", "10", "0.1"},
		{"1", "1000", "0.001"},
		{"1.0", "1E1", "0.10"},
		{"1.0", "10", "0.1"},
		{"6", "2.00", "3"},
		{"1.00", "8", "0.125"},
		{"1.000", "8", "0.125"},
		{"1.0000", "8", "0.1250"},
		{"7", "2", "3.5"},
		{"70", "4", "17.5"},
		{"60", "400", "0.15"},
		{"10", "4", "2.5"},
		{"-3E5", "4", "-75E3"},
		{"3", "4E5", "75E-7"},
		{"1", "16E-3", "625E-1"},
		{"1", ten33, "1E-33"},
		{"2", "5000000000000000000000000000000000", "4E-34"},
		{"1E6111", "8", "125E6108"},
		{"8E-6176", "5E-3", "16E-6174"},
		{nines34, "10", "999999999999999999999999999999999.9"},
		{"999999999999999999999999999999999", "2", "499999999999999999999999999999999.5"},
		// 5^48 has just 34 digits, and is 10^48 by 2^48
		{"1", "281474976710656", "3552713678800500929355621337890625E-48"},
		{"-1", "3552713678800500929355621337890625", "-281474976710656E-48"},
	})
}

func TestP31DivRounds(t *testing.T) {
	checkDivisions(t, []division{
		{"1", "3", "0.3333333333333333333333333333333333"},
		{"2", "3", "0.6666666666666666666666666666666667"},
		{"-2", "3", "-0.6666666666666666666666666666666667"},
		{"20", "3", "6.666666666666666666666666666666667"},
		{"20.00", "3", "6.666666666666666666666666666666667"},
		{"2E-5", "3E7", "6666666666666666666666666666666667E-46"},
		{"1", "7", "0.1428571428571428571428571428571429"},
		{"100", "7", "14.28571428571428571428571428571429"},
		{"1", nines34, ten33 + "E-67"},
		{nines34, "7", "1428571428571428571428571428571428"},
		{nines34, ten33, "9.999999999999999999999999999999999"},
		{"9999999999999999999999999999999998", nines34, nines34 + "E-34"},
		{ten33, nines34, ten33 + "E-34"},
		{"9999999999999999999999999999999996", "9999999999999999999999999999999997", nines34 + "E-34"},
		{"1", "1.000000000000000000000000000000001", "9999999999999999999999999999999990E-34"},
	})
}

// 35 digits, the last of which is a 5, lie exactly half-way; the even one is taken.
func TestP31DivHalfWay(t *testing.T) {
	checkDivisions(t, []division{
		{"2000000000000000000000000000000001", "2", ten33},
		{"2000000000000000000000000000000003", "2", "1000000000000000000000000000000002"},
		{"-2000000000000000000000000000000003", "2", "-1000000000000000000000000000000002"},
		{nines34, "2", "5" + ten33[1:]},
		{"9999999999999999999999999999999997", "2", "4999999999999999999999999999999998"},
		{"1", "562949953421312", "1776356839400250464677810668945312E-48"},
		{"3", "562949953421312", "5329070518200751394033432006835938E-48"},
		{"1", "1125899906842624", "8881784197001252323389053344726562E-49"},
	})
}

// About half-way by as little as two numbers of 34 digits allow, which no quotient of a few digits more tells from half-way.
func TestP31DivBesideHalfWay(t *testing.T) {
	b, _ := new(big.Int).SetString("1000000000000000000000000000000007", 10)
	twice := new(big.Int).Lsh(tenTo(34), 1)
	inverse := new(big.Int).ModInverse(twice, b)
	for i := int64(-40); i <= 40; i++ {
		if i == 0 {
			continue
		}
		// 2a by b, with 34 places, is an odd number and i by b then, if i is odd.
		a := new(big.Int).Mul(inverse, big.NewInt(i))
		a.Mod(a, b)
		x, y := dec.Dec{Coef: uOf(a)}, dec.Dec{Coef: uOf(b)}
		got, ok := quot.Div(x, y)
		want, may := divModel(x, y)
		if got != want || ok != may {
			t.Errorf("Div(%s, %s) = %s, %v, not %s", told(x), told(y), told(got), ok, told(want))
		}
	}
}

func TestP31DivOfNought(t *testing.T) {
	checkDivisions(t, []division{
		{"0", "1", "0"},
		{"0", "-1", "0"},
		{"0.00", "5E1", "0E-3"},
		{"0E7", "5E9", "0E-2"},
		{"0", "1.00", "0E2"},
		{"0", nines34, "0"},
		{"0E6111", "1E-1", "0E6111"},
		{"0E6111", "7E-6176", "0E6111"},
		{"0E-6176", "1E1", "0E-6176"},
		{"0E-6176", "-7E6111", "0E-6176"},
		{"0E-6176", "1", "0E-6176"},
		{"0E6111", "1", "0E6111"},
	})
}

func TestP31DivByNought(t *testing.T) {
	checkDivisions(t, []division{
		{"1", "0", ""},
		{"0", "0", ""},
		{"-1", "0.00", ""},
		{"0E6111", "0E-6176", ""},
		{nines34 + "E6111", "0E6111", ""},
		{"1E-6176", "0E-6176", ""},
	})
}

func TestP31DivAtTheLeastExponent(t *testing.T) {
	checkDivisions(t, []division{
		{"1E-6176", "2", "0E-6176"},
		{"-1E-6176", "2", "0E-6176"},
		{"3E-6176", "2", "2E-6176"},
		{"5E-6176", "2", "2E-6176"},
		{"-7E-6176", "2", "-4E-6176"},
		{"1E-6176", "3", "0E-6176"},
		{"2E-6176", "3", "1E-6176"},
		{"10E-6176", "1E1", "1E-6176"},
		{"10E-6176", "10", "1E-6176"},
		{"15E-6176", "1E1", "2E-6176"},
		{"1E-6176", "1E6111", "0E-6176"},
		{"-" + nines34 + "E-6176", "1E34", "-1E-6176"},
		{nines34 + "E-6176", "1E35", "0E-6176"},
		{"1E-6143", "3", "333333333333333333333333333333333E-6176"},
		{"1E-6142", "3", "3333333333333333333333333333333333E-6176"},
		{"1E-6141", "3", "3333333333333333333333333333333333E-6175"},
		// rounded to 34 digits first, this would be exactly half-way
		{"2999999999999999999999999999999999E-6176", "2E33", "1E-6176"},
		{"5000000000000000000000000000000001E-6176", "2E33", "3E-6176"},
		{"2999999999999999999999999999999998E-6176", "2E33", "1E-6176"},
	})
}

func TestP31DivAtTheGreatestExponent(t *testing.T) {
	checkDivisions(t, []division{
		{"6E6111", "0.2", "30" + ten33[2:] + "E6079"},
		{"1E6111", "1E-33", ten33 + "E6111"},
		{"1E6111", "1E-34", ""},
		{"-1E6111", "1E-34", ""},
		{"12E6111", "1E-32", "12" + ten33[2:] + "E6111"},
		{"12E6111", "1E-33", ""},
		{"1E6111", "8E-34", "125" + ten33[3:] + "E6111"},
		{"1E6111", "8E-35", ""},
		{nines34 + "E6111", "1", nines34 + "E6111"},
		{"-" + nines34 + "E6111", "0.1", ""},
		{nines34 + "E6111", "1E-6176", ""},
		{"1E6111", "1E-6176", ""},
		{"1E6111", "3E-34", "3333333333333333333333333333333333E6111"},
		{"2E6111", "3E-34", "6666666666666666666666666666666667E6111"},
		{"1E6111", "3E-35", ""},
		{nines34 + "E6111", nines34 + "E-34", ""},
		{"9999999999999999999999999999999998E6111", nines34 + "E-34", nines34 + "E6111"},
		{nines34 + "E6110", "0.2", "5" + ten33[1:] + "E6111"},
	})
}

func TestP31DivModel(t *testing.T) {
	check := func(a, b dec.Dec) {
		got, ok := quot.Div(a, b)
		want, may := divModel(a, b)
		if got != want || ok != may {
			t.Errorf("Div(%s, %s) = %s, %v, not %s, %v", told(a), told(b), told(got), ok, told(want), may)
		}
		if !got.May() {
			t.Errorf("Div(%s, %s) = %s, which is no number", told(a), told(b), told(got))
		}
	}
	r := rand.New(rand.NewSource(31))
	for range 6000 {
		check(someDec(r, 0), someDec(r, 0))
		check(someDec(r, -3088), someDec(r, 3088))
		check(someDec(r, 3056), someDec(r, -3056))
	}
	// What is divided by a product's factor is exact.
	for range 3000 {
		b, q := someDec(r, 0), someDec(r, 0)
		if a, ok := dec.Mul(b, q); ok {
			check(a, b)
		}
	}
	some := edges()
	for i, a := range some {
		for j := i % 3; j < len(some); j += 3 {
			check(a, some[j])
		}
	}
}

func TestW1DivOfNoNumbers(t *testing.T) {
	few := []dec.Dec{num("0"), num("1"), num("-25E-3"), num(nines34 + "E6111"), num("1E-6176")}
	for _, a := range noNumbers() {
		for _, b := range append(noNumbers(), few...) {
			quot.Div(a, b)
			quot.Div(b, a)
		}
	}
}

// The limits that the texts above have written out.
func TestLimits(t *testing.T) {
	if api.MaxDigits != 34 || api.MinExp != -6176 || api.MaxExp != 6111 || api.MaxPower != 999999999 {
		t.Error("the tests of this package are written for other limits")
	}
}
