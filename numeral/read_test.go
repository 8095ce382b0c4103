package numeral_test

import (
	"math/rand"
	"strings"
	"testing"

	"casuist/dec"
	"casuist/numeral"
)

// reading is a text and what it is to be read as: nothing, if the coefficient is empty.
type reading struct {
	text string
	coef string
	exp  int
}

func checkReadings(t *testing.T, list []reading) {
	t.Helper()
	for _, c := range list {
		var want dec.Dec
		if c.coef != "" {
			want = by(c.coef, c.exp)
		}
		if got, ok := numeral.Read(c.text); got != want || ok != (c.coef != "") {
			t.Errorf("Read(%s) = %s, %v, not %s", short(c.text), told(got), ok, told(want))
		}
		if got, ok := numeral.Signed(c.text); got != want || ok != (c.coef != "") {
			t.Errorf("Signed(%s) = %s, %v, not %s", short(c.text), told(got), ok, told(want))
		}
		if got, ok := numeral.Signed("-" + c.text); got != dec.Neg(want) || ok != (c.coef != "") {
			t.Errorf("Signed(-%s) = %s, %v, not 0 less %s", short(c.text), told(got), ok, told(want))
		}
		checkAll(t, c.text)
		checkAll(t, "-"+c.text)
	}
}

func TestP52Read(t *testing.T) {
	checkReadings(t, []reading{
		{"1.20E+3", "120", 1},
		{".5", "5", -1},
		{"0", "0", 0},
		{"7", "7", 0},
		{"007", "7", 0},
		{"2.50", "250", -2},
		{"00.250", "250", -3},
		{"0.005", "5", -3},
		{"1E0", "1", 0},
		{"1E3", "1", 3},
		{"1E+3", "1", 3},
		{"1E-3", "1", -3},
		{"1E003", "1", 3},
		{"1E-000003", "1", -3},
		{"12.34E2", "1234", 0},
		{"12.34E1", "1234", -1},
		{"12.34E5", "1234", 3},
		{"12.34E-5", "1234", -7},
		{".5E1", "5", 0},
		{".50E3", "50", 1},
		{"100", "100", 0},
		{nines34, nines34, 0},
		{"." + nines34, nines34, -34},
		{"9." + nines33, nines34, -33},
		{nines34 + "E6111", nines34, 6111},
		{nines34 + "E-6176", nines34, -6176},
		{noughts(600) + "12", "12", 0},
		{noughts(600) + nines34, nines34, 0},
		{"0." + noughts(600) + "12", "12", -602},
		{noughts(300) + "." + noughts(300) + nines34 + "E300", nines34, -34},
	})
}

func TestP52ReadNought(t *testing.T) {
	checkReadings(t, []reading{
		{"0.0", "0", -1},
		{".00", "0", -2},
		{"0E5", "0", 5},
		{"0E-5", "0", -5},
		{"0.00E5", "0", 3},
		{"000", "0", 0},
		{noughts(600), "0", 0},
		{"." + noughts(600), "0", -600},
		{noughts(40) + "." + noughts(40), "0", -40},
		{noughts(600) + "E600", "0", 600},
		{"0E6111", "0", 6111},
		{"0E6112", "0", 6111},
		{"0E999999", "0", 6111},
		{"0.0E6112", "0", 6111},
		{"0.00E6112", "0", 6110},
		{"0E-6176", "0", -6176},
		{"0E-6177", "0", -6176},
		{"0E-999999", "0", -6176},
		{"0.0E-6176", "0", -6176},
		{"0.0E-6175", "0", -6176},
		{"0.0E-6174", "0", -6175},
		{"0." + noughts(7000), "0", -6176},
		{"0." + noughts(7000) + "E7000", "0", 0},
		{"0." + noughts(7000) + "E999999", "0", 6111},
	})
}

// Of what has more than 34 digits the nearest number is taken, of two as near the even one.
func TestP52ReadRounds(t *testing.T) {
	even := "1234567890123456789012345678901234"
	odd := "1234567890123456789012345678901235"
	next := "1234567890123456789012345678901236"
	checkReadings(t, []reading{
		{even + "5", even, 1},
		{odd + "5", next, 1},
		{even + "4", even, 1},
		{even + "6", odd, 1},
		{odd + "4", odd, 1},
		{even + "0", even, 1},
		{even + "50", even, 2},
		{even + "51", odd, 2},
		{even + "49", even, 2},
		{odd + "49", odd, 2},
		{odd + "50", next, 2},
		{even + "5000", even, 4},
		{even + "5001", odd, 4},
		{even + "50000", even, 5},
		{even + "50001", odd, 5},
		{even + "500000", even, 6},
		{even + "500001", odd, 6},
		{even + "499999", even, 6},
		{"0." + even + "5", even, -34},
		{"0." + odd + "5", next, -34},
		{"0." + even + "51", odd, -34},
		{even + ".5", even, 0},
		{odd + ".5", next, 0},
		{even + ".50001", odd, 0},
		{even + ".0", even, 0},
		{even + "5E-10", even, -9},
		{nines34 + "5", ten33, 2},
		{nines34 + "4", nines34, 1},
		{nines34 + "9", ten33, 2},
		{nines34 + ".5", ten33, 1},
		{nines34 + ".4999999999", nines34, 0},
		{nines34 + nines34 + nines34, ten33, 69},
		{ten34, ten33, 1},
		{ten34 + noughts(600), ten33, 601},
		{"00" + even + "5", even, 1},
	})
}

func TestP52ReadHundredsOfDigits(t *testing.T) {
	even := "1234567890123456789012345678901234"
	odd := "1234567890123456789012345678901235"
	next := "1234567890123456789012345678901236"
	checkReadings(t, []reading{
		{even + "5" + noughts(600), even, 601},
		{odd + "5" + noughts(600), next, 601},
		{even + "5" + noughts(600) + "1", odd, 602},
		{even + "5" + noughts(600) + "." + noughts(600) + "1", odd, 601},
		{even + "5" + noughts(300) + "1" + noughts(300), odd, 602},
		{even + "4" + strings.Repeat("9", 600), even, 601},
		{odd + "4" + strings.Repeat("9", 600), odd, 601},
		{even + "." + noughts(600) + "1", even, 0},
		{noughts(600) + even + "5" + noughts(600), even, 601},
		{noughts(600) + even + "5" + noughts(600) + "1", odd, 602},
		{"0." + noughts(600) + odd + "5" + noughts(600), next, -634},
		{"0." + noughts(600) + even + "5" + noughts(600) + "1", odd, -634},
		{ones34 + strings.Repeat("7", 900) + "E-900", "1111111111111111111111111111111112", 0},
		{"1" + noughts(6144), ten33, 6111},
		{"1" + noughts(6145), "", 0},
		{strings.Repeat("9", 6144), ten33, 6111},
		{strings.Repeat("9", 6145), "", 0},
		{nines34 + noughts(6111), nines34, 6111},
		{nines34 + "4" + strings.Repeat("9", 6110), nines34, 6111},
		{nines34 + "5" + noughts(6110), "", 0},
		{"0." + noughts(6175) + "1", "1", -6176},
		{"0." + noughts(6176) + "1", "0", -6176},
		{"0." + noughts(6176) + "5", "0", -6176},
		{"0." + noughts(6176) + "5" + noughts(600) + "1", "1", -6176},
		{"0." + noughts(6175) + "15", "2", -6176},
	})
}

// So many noughts that the exponent alone is far beyond any number's.
func TestP52ReadMillionsOfDigits(t *testing.T) {
	const many = 3 << 20
	for _, c := range []reading{
		{"0." + noughts(many) + "1", "0", -6176},
		{"0." + noughts(many), "0", -6176},
		{"1" + noughts(many), "", 0},
		{noughts(many) + "7", "7", 0},
		{noughts(many), "0", 0},
		{"1." + noughts(many), ten33, -33},
		{"1." + noughts(many) + "1", ten33, -33},
		{"5" + noughts(900000) + "E-900000", "5" + noughts(33), -33},
		{"0." + noughts(900000) + "5E900000", "5", -1},
	} {
		var want dec.Dec
		if c.coef != "" {
			want = by(c.coef, c.exp)
		}
		if got, ok := numeral.Read(c.text); got != want || ok != (c.coef != "") {
			t.Errorf("Read(%s) = %s, %v, not %s", short(c.text), told(got), ok, told(want))
		}
		if !numeral.Shape(c.text) || numeral.Shape(c.text+".") || numeral.Plain(c.text) {
			t.Errorf("Shape or Plain of %s", short(c.text))
		}
	}
}

func TestP52ReadTooGreat(t *testing.T) {
	checkReadings(t, []reading{
		{"1E6145", "", 0},
		{"1E7000", "", 0},
		{"1E+999999", "", 0},
		{"9E6145", "", 0},
		{"10E6144", "", 0},
		{"0.1E6146", "", 0},
		{"12E6144", "", 0},
		{nines34 + "E6112", "", 0},
		{nines34 + "5E6111", "", 0},
		{nines34 + "5E6110", "", 0},
		{nines34 + ".5E6111", "", 0},
		{ten34 + "E6111", "", 0},
		{ten33 + "E6112", "", 0},
		{nines34 + nines34 + "E999999", "", 0},
		{noughts(100) + "1E999999", "", 0},
		{"0." + noughts(100) + "1E6246", "", 0},
	})
}

// Noughts behind the digits, or digits behind the point, bring the exponent back.
func TestP52ReadBroughtBack(t *testing.T) {
	checkReadings(t, []reading{
		{"1E6111", "1", 6111},
		{"1E6112", ten33, 6079},
		{"1E6144", ten33, 6111},
		{"9E6144", "9" + noughts(33), 6111},
		{"12E6143", "12" + noughts(32), 6111},
		{"12E6112", "12" + noughts(32), 6080},
		{nines33 + "E6112", nines33 + "0", 6111},
		{nines34 + "E6111", nines34, 6111},
		{nines34 + "4E6110", nines34, 6111},
		{nines34 + ".4E6111", nines34, 6111},
		{ten34 + "E6110", ten33, 6111},
		{"0.1E6112", "1", 6111},
		{"0.1E6113", ten33, 6079},
		{"0.1E6145", ten33, 6111},
		{"0." + noughts(100) + "1E6245", ten33, 6111},
		{"0." + noughts(100) + "1E6212", "1", 6111},
	})
}

// What is nearer to 0 than to the least number is 0.
func TestP52ReadTooSmall(t *testing.T) {
	checkReadings(t, []reading{
		{"1E-6176", "1", -6176},
		{"1E-6177", "0", -6176},
		{"5E-6177", "0", -6176},
		{"5.0E-6177", "0", -6176},
		{"5.1E-6177", "1", -6176},
		{"6E-6177", "1", -6176},
		{"15E-6177", "2", -6176},
		{"25E-6177", "2", -6176},
		{"10E-6177", "1", -6176},
		{"0.1E-6176", "0", -6176},
		{"0.1E-6175", "1", -6176},
		{"9E-6178", "0", -6176},
		{"1E-999999", "0", -6176},
		{nines34 + "E-6177", ten33, -6176},
		{nines34 + "E-6209", "10", -6176},
		{nines34 + "E-6210", "1", -6176},
		{nines34 + "E-6211", "0", -6176},
		{nines34 + "E-999999", "0", -6176},
		{"5" + noughts(33) + "E-6210", "0", -6176},
		{"5" + noughts(32) + "1E-6210", "1", -6176},
		{"5" + noughts(600) + "E-6777", "0", -6176},
		{"5" + noughts(600) + "1E-6778", "1", -6176},
		{"4" + strings.Repeat("9", 600) + "E-6777", "0", -6176},
	})
}

func TestP52ReadByTheWords(t *testing.T) {
	r := rand.New(rand.NewSource(52))
	for range 20000 {
		checkAll(t, someNumeral(r, 6))
		checkAll(t, someNumeral(r, 45))
	}
	for range 3000 {
		checkAll(t, someNumeral(r, 400))
	}
}
