package numeral_test

import (
	"testing"

	"casuist/dec"
	"casuist/numeral"
)

func TestP52Signed(t *testing.T) {
	for s, want := range map[string]dec.Dec{
		"1":                     by("1", 0),
		"-1":                    by("-1", 0),
		"-007":                  by("-7", 0),
		"-.5":                   by("-5", -1),
		"-2.50":                 by("-250", -2),
		"-12E3":                 by("-12", 3),
		"-1.20E+3":              by("-120", 1),
		"-1E-3":                 by("-1", -3),
		"-" + nines34:           by("-"+nines34, 0),
		"-" + nines34 + "5":     by("-"+ten33, 2),
		"-" + ones34 + "5":      by("-1111111111111111111111111111111112", 1),
		"-" + nines34 + "E6111": by("-"+nines34, 6111),
		"-1E6144":               by("-"+ten33, 6111),
		"-1E-6176":              by("-1", -6176),
	} {
		if got, ok := numeral.Signed(s); got != want || !ok {
			t.Errorf("Signed(%q) = %s, %v, not %s", s, told(got), ok, told(want))
		}
	}
}

// 0 less 0 is 0, with the exponent that it has.
func TestP52SignedOfNought(t *testing.T) {
	for s, exp := range map[string]int{
		"0": 0, "-0": 0, "-000": 0, "-0.00": -2, "-.0": -1, "-0E5": 5, "-0E-5": -5, "-0E999999": 6111, "-0E-999999": -6176,
		// rounded to 0
		"-1E-6177": -6176, "-5E-6177": -6176, "-1E-999999": -6176,
	} {
		if got, ok := numeral.Signed(s); got != (dec.Dec{Exp: exp}) || !ok {
			t.Errorf("Signed(%q) = %s, %v", s, told(got), ok)
		}
	}
}

func TestP52SignedOfWhatIsNone(t *testing.T) {
	for _, s := range []string{
		"", "-", "--", "--1", "---1", "--0", "-+1", "+-1", "+1", "+0", "1-", "1-1", "-1-", "- 1", " -1", "-1 ", "-.", "-1.", "-E5", "-1E", "-1E1234567",
		"\u22121", "\u20131", "-\u0661", "-\xff", "\xff-1", "-1E6145", "-" + nines34 + "5E6110", "-1E999999",
	} {
		if got, ok := numeral.Signed(s); got != (dec.Dec{}) || ok {
			t.Errorf("Signed(%q) = %s, %v", s, told(got), ok)
		}
	}
	for _, s := range []string{"-1", "-0", "-.5", "-1E5"} {
		if got, ok := numeral.Read(s); got != (dec.Dec{}) || ok || numeral.Shape(s) {
			t.Errorf("Read(%q) = %s, %v, Shape %v", s, told(got), ok, numeral.Shape(s))
		}
	}
}
