package round_test

import (
	"fmt"
	"math"
	"math/rand"
	"testing"

	"casuist/api"
	"casuist/dec"
	"casuist/round"
)

// byMode is what a thing comes to by each mode, in the order of modes.
type byMode [7]string

// all is a byMode of one text.
func all(s string) byMode { return byMode{s, s, s, s, s, s, s} }

type scaling struct {
	a      string
	places int
	want   byMode
}

func checkScalings(t *testing.T, list []scaling) {
	t.Helper()
	for _, c := range list {
		for i, m := range modes() {
			got, ok := round.Scale(num(c.a), c.places, m)
			answered(t, fmt.Sprintf("Scale(%s, %d, %d)", c.a, c.places, m), got, ok, c.want[i])
		}
	}
}

func TestP41ScaleByEachMode(t *testing.T) {
	checkScalings(t, []scaling{
		// exactly half-way, above an even and an odd number of steps
		{"2.345", 2, byMode{"2.34", "2.35", "2.34", "2.35", "2.34", "2.34", "2.35"}},
		{"-2.345", 2, byMode{"-2.34", "-2.35", "-2.34", "-2.35", "-2.34", "-2.35", "-2.34"}},
		{"2.355", 2, byMode{"2.36", "2.36", "2.35", "2.36", "2.35", "2.35", "2.36"}},
		{"-2.355", 2, byMode{"-2.36", "-2.36", "-2.35", "-2.36", "-2.35", "-2.36", "-2.35"}},
		{"2.34500000", 2, byMode{"2.34", "2.35", "2.34", "2.35", "2.34", "2.34", "2.35"}},
		{"-2.5", 0, byMode{"-2", "-3", "-2", "-3", "-2", "-3", "-2"}},
		{"15", -1, byMode{"2E1", "2E1", "1E1", "2E1", "1E1", "1E1", "2E1"}},
		{"-250", -2, byMode{"-2E2", "-3E2", "-2E2", "-3E2", "-2E2", "-3E2", "-2E2"}},
		{"25E7", -8, byMode{"2E8", "3E8", "2E8", "3E8", "2E8", "2E8", "3E8"}},
		// a little more than that
		{"2.346", 2, byMode{"2.35", "2.35", "2.35", "2.35", "2.34", "2.34", "2.35"}},
		{"-2.346", 2, byMode{"-2.35", "-2.35", "-2.35", "-2.35", "-2.34", "-2.35", "-2.34"}},
		{"2.345000000000000000000000000000001", 2, byMode{"2.35", "2.35", "2.35", "2.35", "2.34", "2.34", "2.35"}},
		{"-2.345000000000000000000000000000001", 2, byMode{"-2.35", "-2.35", "-2.35", "-2.35", "-2.34", "-2.35", "-2.34"}},
		// a little less
		{"2.354", 2, byMode{"2.35", "2.35", "2.35", "2.36", "2.35", "2.35", "2.36"}},
		{"-2.354", 2, byMode{"-2.35", "-2.35", "-2.35", "-2.36", "-2.35", "-2.36", "-2.35"}},
		{"2.354999999999999999999999999999999", 2, byMode{"2.35", "2.35", "2.35", "2.36", "2.35", "2.35", "2.36"}},
		{"-2.354999999999999999999999999999999", 2, byMode{"-2.35", "-2.35", "-2.35", "-2.36", "-2.35", "-2.36", "-2.35"}},
		// the least bit beside a step
		{"2.340000000000000000000000000000001", 2, byMode{"2.34", "2.34", "2.34", "2.35", "2.34", "2.34", "2.35"}},
		{"-2.349999999999999999999999999999999", 2, byMode{"-2.35", "-2.35", "-2.35", "-2.35", "-2.34", "-2.35", "-2.34"}},
	})
}

func TestP41ScaleExact(t *testing.T) {
	checkScalings(t, []scaling{
		// more places than there are
		{"1.5", 3, all("1.500")},
		{"-1.5", 3, all("-1.500")},
		{"7", 1, all("7.0")},
		{"2E3", 0, all("2000")},
		{"-2E3", -1, all("-200E1")},
		{"12E5", 2, all("1200000.00")},
		// as many
		{"2.34", 2, all("2.34")},
		{"-2.34", 2, all("-2.34")},
		{"7", 0, all("7")},
		{"7E4", -4, all("7E4")},
		// fewer, and nothing lost
		{"2.3400", 2, all("2.34")},
		{"-2.00", 0, all("-2")},
		{"1200", -2, all("12E2")},
		{ten33, -33, all("1E33")},
		{ten33 + "E-33", 0, all("1")},
	})
}

func TestP41ScaleLeavesNothingOrOne(t *testing.T) {
	checkScalings(t, []scaling{
		{"5", -1, byMode{"0E1", "1E1", "0E1", "1E1", "0E1", "0E1", "1E1"}},
		{"-5", -1, byMode{"0E1", "-1E1", "0E1", "-1E1", "0E1", "-1E1", "0E1"}},
		{"0.5", 0, byMode{"0", "1", "0", "1", "0", "0", "1"}},
		{"-0.5", 0, byMode{"0", "-1", "0", "-1", "0", "-1", "0"}},
		{"0.4", 0, byMode{"0", "0", "0", "1", "0", "0", "1"}},
		{"-0.4", 0, byMode{"0", "0", "0", "-1", "0", "-1", "0"}},
		{"0.6", 0, byMode{"1", "1", "1", "1", "0", "0", "1"}},
		{"-0.6", 0, byMode{"-1", "-1", "-1", "-1", "0", "-1", "0"}},
		{"9", -2, byMode{"0E2", "0E2", "0E2", "1E2", "0E2", "0E2", "1E2"}},
		{"-9", -2, byMode{"0E2", "0E2", "0E2", "-1E2", "0E2", "-1E2", "0E2"}},
		{nines34, -34, byMode{"1E34", "1E34", "1E34", "1E34", "0E34", "0E34", "1E34"}},
		{"-" + nines34, -34, byMode{"-1E34", "-1E34", "-1E34", "-1E34", "0E34", "-1E34", "0E34"}},
		{nines34, -35, byMode{"0E35", "0E35", "0E35", "1E35", "0E35", "0E35", "1E35"}},
		{"5000000000000000000000000000000000", -34, byMode{"0E34", "1E34", "0E34", "1E34", "0E34", "0E34", "1E34"}},
		{"5000000000000000000000000000000001", -34, byMode{"1E34", "1E34", "1E34", "1E34", "0E34", "0E34", "1E34"}},
		{"4" + nines33, -34, byMode{"0E34", "0E34", "0E34", "1E34", "0E34", "0E34", "1E34"}},
		{"1", -6111, byMode{"0E6111", "0E6111", "0E6111", "1E6111", "0E6111", "0E6111", "1E6111"}},
		{"-1E-6176", -6111, byMode{"0E6111", "0E6111", "0E6111", "-1E6111", "0E6111", "-1E6111", "0E6111"}},
		{nines34 + "E-6176", -6111, byMode{"0E6111", "0E6111", "0E6111", "1E6111", "0E6111", "0E6111", "1E6111"}},
		{"1E-6176", 6175, byMode{"0E-6175", "0E-6175", "0E-6175", "1E-6175", "0E-6175", "0E-6175", "1E-6175"}},
	})
}

// 34 digits may be, 35 not, whether they come by noughts or by what is carried.
func TestP41ScaleDigits(t *testing.T) {
	checkScalings(t, []scaling{
		{"1", 33, all(ten33 + "E-33")},
		{"-1", 33, all("-" + ten33 + "E-33")},
		{"1", 34, all("")},
		{"-1", 34, all("")},
		{"12", 32, all("12" + ten33[2:] + "E-32")},
		{"12", 33, all("")},
		{"9.9", 33, all("99" + ten33[2:] + "E-33")},
		{"9.9", 34, all("")},
		{nines34, 0, all(nines34)},
		{nines34, 1, all("")},
		{nines33, 1, all(nines33 + "0E-1")},
		{nines33, 2, all("")},
		{"1E33", 0, all(ten33)},
		{"1E34", 0, all("")},
		{"1E38", 0, all("")},
		{"1E39", 0, all("")},
		{"-1E40", 0, all("")},
		// 2^90 times 10^38, and 2^94 times 10^34, are multiples of 2^128: their low halves alone would be 0.
		{"1237940039285380274899124224E38", 0, all("")},
		{"19807040628566084398385987584E34", 0, all("")},
		{nines34, -1, byMode{ten33 + "E1", ten33 + "E1", ten33 + "E1", ten33 + "E1", nines33 + "E1", nines33 + "E1", ten33 + "E1"}},
		{"-" + nines34, -1, byMode{"-" + ten33 + "E1", "-" + ten33 + "E1", "-" + ten33 + "E1", "-" + ten33 + "E1", "-" + nines33 + "E1", "-" + ten33 + "E1", "-" + nines33 + "E1"}},
		{"9.99", 1, byMode{"10.0", "10.0", "10.0", "10.0", "9.9", "9.9", "10.0"}},
	})
}

func TestP41ScaleAtTheEdgesOfTheExponent(t *testing.T) {
	checkScalings(t, []scaling{
		{"1E-6176", 6176, all("1E-6176")},
		{"1E-6143", 6176, all(ten33 + "E-6176")},
		{"1E-6142", 6176, all("")},
		{"1", 6176, all("")},
		{"0", 6176, all("0E-6176")},
		{"1E6111", -6111, all("1E6111")},
		{nines34 + "E6111", -6111, all(nines34 + "E6111")},
		{nines34 + "E6111", -6110, all("")},
		{"1E6111", -6110, all("10E6110")},
		{"1E6111", -6078, all(ten33 + "E6078")},
		{"1E6111", -6077, all("")},
		{"1E6111", 0, all("")},
		{"1E6111", 6176, all("")},
		{"10E6110", -6111, all("1E6111")},
		{"-25E6110", -6111, byMode{"-2E6111", "-3E6111", "-2E6111", "-3E6111", "-2E6111", "-3E6111", "-2E6111"}},
	})
}

func TestP41ScaleToPlacesThatMayNotBe(t *testing.T) {
	for _, places := range []int{6177, 6178, -6112, -6113, 1 << 20, -1 << 20, 1 << 32, -1 << 32, 1 << 62, math.MaxInt, math.MaxInt - 1, math.MinInt, math.MinInt + 1, math.MinInt + 6111, math.MaxInt - 6176} {
		for _, s := range []string{"0", "0E-6176", "0E6111", "1", "-1.5", "1E-6176", "1E6111", "-" + nines34 + "E6111", nines34 + "E-6176"} {
			checkScalings(t, []scaling{{s, places, all("")}})
		}
	}
}

func TestP41ScaleOfNought(t *testing.T) {
	for places := -6111; places <= 6176; places++ {
		want := dec.Dec{Exp: -places}
		for _, e := range []int{-6176, -39, -1, 0, 1, 39, 6111} {
			if got, ok := round.Scale(dec.Dec{Exp: e}, places, dec.Up); got != want || !ok {
				t.Fatalf("Scale(0E%d, %d) = %s, %v", e, places, told(got), ok)
			}
		}
	}
}

func TestP41ScaleByNoMode(t *testing.T) {
	for _, m := range noModes() {
		for _, s := range []string{"0", "0E5", "1", "1.00", "-1.5", "2.345", "1E6111", "1E-6176", nines34} {
			for _, places := range []int{-6111, -1, 0, 1, 2, 6176} {
				if got, ok := round.Scale(num(s), places, m); got != (dec.Dec{}) || ok {
					t.Errorf("Scale(%s, %d, %d) = %s, %v", s, places, m, told(got), ok)
				}
			}
		}
	}
}

func TestP41ScaleByTheWords(t *testing.T) {
	check := func(a dec.Dec, places int) {
		t.Helper()
		for _, m := range modes() {
			got, ok := round.Scale(a, places, m)
			want, may := scaleModel(a, places, m)
			if got != want || ok != may {
				t.Errorf("Scale(%s, %d, %d) = %s, %v, not %s, %v", told(a), places, m, told(got), ok, told(want), may)
			}
			if !got.May() {
				t.Errorf("Scale(%s, %d, %d) = %s, which is no number", told(a), places, m, told(got))
			}
		}
	}
	for _, a := range edges() {
		for _, more := range []int{-78, -40, -35, -34, -33, -2, -1, 0, 1, 2, 33, 34, 38, 39, 77} {
			check(a, more-a.Exp)
		}
		for _, places := range []int{-6112, -6111, -1, 0, 1, 6176, 6177} {
			check(a, places)
		}
	}
	r := rand.New(rand.NewSource(41))
	for range 4000 {
		a := someDec(r, 0, 80)
		check(a, r.Intn(81)-40-a.Exp)
		check(a, r.Intn(161)-80)
		check(someDec(r, api.MinExp, 50), r.Intn(101)-50-api.MinExp)
		check(someDec(r, api.MaxExp, 50), r.Intn(101)-50-api.MaxExp)
	}
}

func TestW1ScaleOfNoNumbers(t *testing.T) {
	places := []int{math.MinInt, -6112, -6111, -1, 0, 1, 38, 39, 6176, 6177, math.MaxInt}
	for _, a := range noNumbers() {
		for _, n := range places {
			for _, m := range append(modes(), noModes()...) {
				round.Scale(a, n, m)
			}
		}
	}
}
