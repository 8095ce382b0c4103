package numeral_test

import (
	"math/rand"
	"testing"

	"casuist/api"
	"casuist/dec"
	"casuist/numeral"
)

// checkPlain: a number's text is plain, and is read as that number.
func checkPlain(t *testing.T, d dec.Dec) {
	t.Helper()
	s := numeral.Text(d)
	if !numeral.Plain(s) {
		t.Errorf("Text(%s), %q, is not plain", told(d), s)
	}
	if back, ok := numeral.Signed(s); back != d || !ok {
		t.Errorf("Signed(%q) = %s, %v, not %s", s, told(back), ok, told(d))
	}
}

func TestP53PlainAreTexts(t *testing.T) {
	for _, d := range edges() {
		checkPlain(t, d)
	}
	for e := api.MinExp; e <= api.MaxExp; e++ {
		checkPlain(t, by("0", e))
		checkPlain(t, by("-7", e))
		checkPlain(t, by(nines34, e))
	}
	r := rand.New(rand.NewSource(53))
	for range 5000 {
		checkPlain(t, someDec(r, -20, 30))
		checkPlain(t, someDec(r, 0, 7000))
	}
}

func TestP53Plain(t *testing.T) {
	for _, s := range []string{
		"0", "7", "-7", "10", "100", nines34, "-" + nines34,
		"0.0", "0.00", "2.50", "-2.50", "0.005", "-0.1", "10.0", "0." + noughts(40), "0." + noughts(39) + "1", "0.000000" + nines34, nines33 + ".9",
		"1E1", "12E3", "-12E3", "0E1", "0E5", "0E6111", "0E-41", "5E-41", "1E-6176", "0E-6176", "1E6111", nines34 + "E6111", "-" + nines34 + "E-6176", "10E40",
	} {
		if !numeral.Plain(s) {
			t.Errorf("Plain(%q) is false", s)
		}
		checkAll(t, s)
	}
}

// These say a number, but otherwise than its text.
func TestP53WhatIsSaidOtherwise(t *testing.T) {
	for _, s := range []string{
		"007", "00", "01", "-01", "00.5", "01.5", "-00.5", "012E3", "00E5",
		".5", "-.5", ".0", ".5E41",
		"-0", "-0.0", "-0.00", "-0E5", "-0E-41",
		"1E0", "0E0", "1E-0", "1E+0", "-1E0",
		"1E+5", "12E+3", "0E+5", "1E05", "1E000005", "1E-041", "5E-000041",
		"1E-5", "1E-1", "0E-1", "0E-2", "250E-2", "1E-40", "0E-40", nines34 + "E-40",
		"1.5E3", "1.0E1", "1.5E-41", "0.0E5", "1.5E0",
		"0." + noughts(41), "0." + noughts(40) + "1", "1." + noughts(41),
		ten34, nines34 + "5", nines34 + "0", "1." + nines34, "12." + nines33, nines34 + ".0", ten34 + "E1", ten34 + "E-41", nines34 + "5E-50",
		"1E6112", "1E6144", nines33 + "E6112", "0E6112", "0E999999",
		"1E-6177", "10E-6177", "0E-6177", "0E-999999", "1E-999999",
	} {
		if _, ok := numeral.Signed(s); !ok {
			t.Errorf("Signed(%q): false", s)
		}
		if numeral.Plain(s) {
			t.Errorf("Plain(%q) is true", s)
		}
		checkAll(t, s)
	}
}

func TestP53WhatIsNoNumber(t *testing.T) {
	for _, s := range []string{"1E6145", "-1E6145", nines34 + "E6112", "1E999999", "--1", "+1", "1.", ".", "-", "", "1e5", " 1", "1 ", "\u0661", "1\xff", "null"} {
		if numeral.Plain(s) {
			t.Errorf("Plain(%q) is true", s)
		}
	}
}

func TestP53PlainByTheWords(t *testing.T) {
	r := rand.New(rand.NewSource(54))
	for range 5000 {
		s := numeral.Text(someDec(r, -20, 30))
		checkAll(t, s)
		// One sign away, another one or twice.
		at := r.Intn(len(s))
		checkAll(t, s[:at]+s[at+1:])
		checkAll(t, s[:at]+string("0123456789.E+-"[r.Intn(14)])+s[at+1:])
		checkAll(t, s[:at+1]+s[at:])
	}
}

// Texts of Decs that are no numbers are not asked to be plain: the calls end.
func TestW1PlainOfNoNumbers(t *testing.T) {
	for _, d := range noNumbers() {
		checkAll(t, numeral.Text(d))
	}
}
