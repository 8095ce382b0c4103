package round_test

import (
	"math/rand"
	"testing"

	"casuist/dec"
	"casuist/round"
)

func TestP42WholeByEachMode(t *testing.T) {
	for _, c := range []struct {
		a    string
		want byMode
	}{
		{"1.5", byMode{"2", "2", "1", "2", "1", "1", "2"}},
		{"-1.5", byMode{"-2", "-2", "-1", "-2", "-1", "-2", "-1"}},
		{"2.5", byMode{"2", "3", "2", "3", "2", "2", "3"}},
		{"-2.5", byMode{"-2", "-3", "-2", "-3", "-2", "-3", "-2"}},
		{"2.51", byMode{"3", "3", "3", "3", "2", "2", "3"}},
		{"-2.49", byMode{"-2", "-2", "-2", "-3", "-2", "-3", "-2"}},
		{"0.5", byMode{"0", "1", "0", "1", "0", "0", "1"}},
		{"-0.5", byMode{"0", "-1", "0", "-1", "0", "-1", "0"}},
		{"2.00", all("2")},
		{"-2.0", all("-2")},
		{"0.00", all("0")},
		{"0E-6176", all("0")},
		{"1E-6176", byMode{"0", "0", "0", "1", "0", "0", "1"}},
		{"-" + nines34 + "E-6176", byMode{"0", "0", "0", "-1", "0", "-1", "0"}},
		{nines33 + ".9", byMode{ten33, ten33, ten33, ten33, nines33, nines33, ten33}},
		{ten33 + "E-33", all("1")},
	} {
		for i, m := range modes() {
			if got := round.Whole(num(c.a), m); got != num(c.want[i]) {
				t.Errorf("Whole(%s, %d) = %s, not %s", c.a, m, told(got), c.want[i])
			}
		}
	}
}

// What has no places stays as it is told, whatever the mode.
func TestP42WholeStays(t *testing.T) {
	for _, s := range []string{"0", "0E1", "0E6111", "1", "-1", "7", "10", "5E3", "-5E3", "50E2", "1E33", "1E34", "-1E40", "1E6111", nines34, nines34 + "E1", "-" + nines34 + "E6111"} {
		a := num(s)
		for _, m := range append(modes(), noModes()...) {
			if got := round.Whole(a, m); got != a {
				t.Errorf("Whole(%s, %d) = %s", s, m, told(got))
			}
		}
		if got := round.Floor(a); got != a {
			t.Errorf("Floor(%s) = %s", s, told(got))
		}
		if got := round.Ceiling(a); got != a {
			t.Errorf("Ceiling(%s) = %s", s, told(got))
		}
	}
}

// By no mode Scale answers a zero Dec, and Whole that.
func TestP42WholeByNoMode(t *testing.T) {
	for _, m := range noModes() {
		for _, s := range []string{"1.5", "-1.5", "2.00", "0.0", "1E-6176", nines34 + "E-1"} {
			if got := round.Whole(num(s), m); got != (dec.Dec{}) {
				t.Errorf("Whole(%s, %d) = %s", s, m, told(got))
			}
		}
	}
}

func TestP42FloorAndCeiling(t *testing.T) {
	for _, c := range []struct{ a, floor, ceiling string }{
		{"1.5", "1", "2"},
		{"-1.5", "-2", "-1"},
		{"1.0", "1", "1"},
		{"-1.0", "-1", "-1"},
		{"0.1", "0", "1"},
		{"-0.1", "-1", "0"},
		{"0.0", "0", "0"},
		{"2.999", "2", "3"},
		{"-2.001", "-3", "-2"},
		{"1E-6176", "0", "1"},
		{"-1E-6176", "-1", "0"},
		{nines33 + ".9", nines33, ten33},
		{"-" + nines33 + ".9", "-" + ten33, "-" + nines33},
		{"5E3", "5E3", "5E3"},
		{"-5E3", "-5E3", "-5E3"},
	} {
		if got := round.Floor(num(c.a)); got != num(c.floor) {
			t.Errorf("Floor(%s) = %s", c.a, told(got))
		}
		if got := round.Ceiling(num(c.a)); got != num(c.ceiling) {
			t.Errorf("Ceiling(%s) = %s", c.a, told(got))
		}
	}
}

func TestP42WholeByTheWords(t *testing.T) {
	check := func(a dec.Dec) {
		t.Helper()
		for _, m := range modes() {
			if got, want := round.Whole(a, m), wholeModel(a, m); got != want {
				t.Errorf("Whole(%s, %d) = %s, not %s", told(a), m, told(got), told(want))
			}
		}
		if got, want := round.Floor(a), wholeModel(a, dec.Floor); got != want {
			t.Errorf("Floor(%s) = %s, not %s", told(a), told(got), told(want))
		}
		if got, want := round.Ceiling(a), wholeModel(a, dec.Ceiling); got != want {
			t.Errorf("Ceiling(%s) = %s, not %s", told(a), told(got), told(want))
		}
	}
	for _, a := range edges() {
		check(a)
	}
	r := rand.New(rand.NewSource(42))
	for range 4000 {
		check(someDec(r, -17, 20))
		check(someDec(r, -40, 60))
	}
}

func TestW1WholeOfNoNumbers(t *testing.T) {
	for _, a := range noNumbers() {
		for _, m := range append(modes(), noModes()...) {
			round.Whole(a, m)
		}
		round.Floor(a)
		round.Ceiling(a)
	}
}
