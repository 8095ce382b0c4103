package numeral_test

import (
	"math/rand"
	"testing"

	"casuist/api"
	"casuist/dec"
	"casuist/numeral"
)

func TestP51Text(t *testing.T) {
	for want, d := range map[string]dec.Dec{
		"2.50":      by("250", -2),
		"-2.50":     by("-250", -2),
		"0.005":     by("5", -3),
		"-0.005":    by("-5", -3),
		"12E3":      by("12", 3),
		"-12E3":     by("-12", 3),
		"0":         by("0", 0),
		"7":         by("7", 0),
		"-7":        by("-7", 0),
		"100":       by("100", 0),
		nines34:     by(nines34, 0),
		"-" + ten33: by("-"+ten33, 0),
	} {
		if got := numeral.Text(d); got != want {
			t.Errorf("Text(%s) = %q, not %q", told(d), got, want)
		}
	}
}

// The point stands ahead of as many digits as the exponent says, with one digit ahead of it.
func TestP51TextWithAPoint(t *testing.T) {
	for want, d := range map[string]dec.Dec{
		"0.1":                     by("1", -1),
		"0.9":                     by("9", -1),
		"1.0":                     by("10", -1),
		"-1.5":                    by("-15", -1),
		"0.10":                    by("10", -2),
		"0.01":                    by("1", -2),
		"1.00":                    by("100", -2),
		"12.34":                   by("1234", -2),
		"0.1234":                  by("1234", -4),
		"0.01234":                 by("1234", -5),
		nines33 + ".9":            by(nines34, -1),
		"-9." + nines33:           by("-"+nines34, -33),
		"0." + nines34:            by(nines34, -34),
		"0.0" + nines34:           by(nines34, -35),
		"0.00000" + nines34:       by(nines34, -39),
		"0.000000" + nines34:      by(nines34, -40),
		"-0.000000" + nines34:     by("-"+nines34, -40),
		"0." + noughts(39) + "1":  by("1", -40),
		"-0." + noughts(39) + "1": by("-1", -40),
		"0." + noughts(38) + "10": by("10", -40),
		"0." + noughts(38) + "1":  by("1", -39),
	} {
		if got := numeral.Text(d); got != want {
			t.Errorf("Text(%s) = %q, not %q", told(d), got, want)
		}
	}
}

func TestP51TextWithAnExponent(t *testing.T) {
	for want, d := range map[string]dec.Dec{
		"1E1":                    by("1", 1),
		"-1E1":                   by("-1", 1),
		"10E1":                   by("10", 1),
		"5E-41":                  by("5", -41),
		"-5E-41":                 by("-5", -41),
		nines34 + "E-41":         by(nines34, -41),
		nines34 + "E1":           by(nines34, 1),
		"1E40":                   by("1", 40),
		"1E41":                   by("1", 41),
		"1E-42":                  by("1", -42),
		"1E-6176":                by("1", -6176),
		"-1E-6176":               by("-1", -6176),
		"1E6111":                 by("1", 6111),
		nines34 + "E6111":        by(nines34, 6111),
		"-" + nines34 + "E6111":  by("-"+nines34, 6111),
		"-" + nines34 + "E-6176": by("-"+nines34, -6176),
		"100E-100":               by("100", -100),
	} {
		if got := numeral.Text(d); got != want {
			t.Errorf("Text(%s) = %q, not %q", told(d), got, want)
		}
	}
}

func TestP51TextOfNought(t *testing.T) {
	for exp, want := range map[int]string{
		0: "0", -1: "0.0", -2: "0.00", -39: "0." + noughts(39), -40: "0." + noughts(40), -41: "0E-41", -6176: "0E-6176", 1: "0E1", 5: "0E5", 40: "0E40", 6111: "0E6111",
	} {
		if got := numeral.Text(dec.Dec{Exp: exp}); got != want {
			t.Errorf("Text(0 by 10^%d) = %q, not %q", exp, got, want)
		}
	}
}

func TestP51TextWithEachExponent(t *testing.T) {
	for e := api.MinExp; e <= api.MaxExp; e++ {
		for _, c := range []string{"0", "7", "-7", "10", "-1234567", nines34, "-" + ten33} {
			d := by(c, e)
			if got, want := numeral.Text(d), textModel(d); got != want {
				t.Fatalf("Text(%s) = %q, not %q", told(d), got, want)
			}
		}
	}
}

func TestP51TextByTheWords(t *testing.T) {
	check := func(d dec.Dec) {
		t.Helper()
		if got, want := numeral.Text(d), textModel(d); got != want {
			t.Errorf("Text(%s) = %q, not %q", told(d), got, want)
		}
	}
	for _, d := range edges() {
		check(d)
	}
	r := rand.New(rand.NewSource(51))
	for range 5000 {
		check(someDec(r, -20, 30))
		check(someDec(r, 0, 7000))
	}
}

// Nothing is promised of these but that the call ends.
func TestW1TextOfNoNumbers(t *testing.T) {
	for _, d := range noNumbers() {
		numeral.Text(d)
	}
}
