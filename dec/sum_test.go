package dec_test

import (
	"math/rand"
	"testing"

	"casuist/api"
	"casuist/dec"
)

// reckoned holds what a call answers against a text, or against nothing, if it is too great.
func reckoned(t *testing.T, call string, got dec.Dec, ok bool, want string) {
	t.Helper()
	var d dec.Dec
	if want != "" {
		d = num(want)
	}
	if got != d || ok != (want != "") {
		t.Errorf("%s = %v, %v, not %q", call, got, ok, want)
	}
}

func TestP23Add(t *testing.T) {
	for _, c := range []struct{ a, b, want string }{
		{"1.5", "2.50", "4.00"},
		{"1", "2", "3"},
		{"-1", "2", "1"},
		{"1", "-2", "-1"},
		{"-1.5", "-2.50", "-4.00"},
		{"1.00", "-1", "0.00"},
		{"-1E3", "1000", "0"},
		{"0", "0", "0"},
		{"0E5", "0E-5", "0E-5"},
		{"0E6111", "7", "7"},
		{"0E6111", "-7E-6176", "-7E-6176"},
		{"0E-2", "7", "7.00"},
		{"0E-6176", "1", ten33 + "E-33"},
		{"0E-6176", "-12E6110", "-12" + ten33[2:] + "E6078"},
		{"12E3", "3", "12003"},
		{"1E33", "1", "1000000000000000000000000000000001"},
		// rounded once, half to even
		{nines34, "0.5", ten33 + "E1"},
		{nines34, "0.4", nines34},
		{nines34, "0.4999999999999999999999999999999999", nines34},
		{nines34, "1", ten33 + "E1"},
		{"-" + nines34, "-0.5", "-" + ten33 + "E1"},
		{nines34, nines34, "2" + ten33[1:] + "E1"},
		{"1E34", "5", ten33 + "E1"},
		{"1E34", "5.000000000000000000000000000000001", "1000000000000000000000000000000001E1"},
		{"1E34", "15", "1000000000000000000000000000000002E1"},
		{"1E34", "-5", "9999999999999999999999999999999995"},
		{"1E34", "-0.5", ten33 + "E1"},
		{"1E34", "-0.6", nines34},
		// far from one another
		{"1E50", "-1", ten33 + "E17"},
		{"1E50", "1", ten33 + "E17"},
		{"1E73", "-1", ten33 + "E40"},
		{"15E38", "1", "1500000000000000000000000000000000E6"},
		{"1E6111", "1E-6176", ten33 + "E6078"},
		{"1E6111", "-1E-6176", ten33 + "E6078"},
		{"-1E-6176", "-" + nines34 + "E6111", "-" + nines34 + "E6111"},
		// half-way, and what something far below makes of that
		{"1000000000000000000000000000000001E35", "5E34", "1000000000000000000000000000000002E35"},
		{ten33 + "E35", "5E34", ten33 + "E35"},
		{ten33 + "E35", "5000000000000000000000000000000001E1", "1000000000000000000000000000000001E35"},
		{"1E78", "5E44", ten33 + "E45"},
		{"1E78", "5000000000000000000000000000000001E11", "1000000000000000000000000000000001E45"},
		{"1E78", "4999999999999999999999999999999999E11", ten33 + "E45"},
		{"1E78", "-5E43", ten33 + "E45"},
		{"1E78", "-5000000000000000000000000000000001E10", nines34 + "E44"},
		{"1E78", "-4999999999999999999999999999999999E10", ten33 + "E45"},
		{"-1E78", "5000000000000000000000000000000001E10", "-" + nines34 + "E44"},
		{"15E78", "-14999995E39", "1499999999999999999999999999999999E46"},
		{"15E78", "-15E45", "1499999999999999999999999999999998E46"},
		// too great
		{nines34 + "E6111", "1E6111", ""},
		{"-" + nines34 + "E6111", "-1E6111", ""},
		{nines34 + "E6111", nines34 + "E6111", ""},
		{nines34 + "E6111", "5E6110", ""},
		{nines34 + "E6111", "4E6110", nines34 + "E6111"},
		{nines34 + "E6111", "-1E6111", "9999999999999999999999999999999998E6111"},
	} {
		got, ok := dec.Add(num(c.a), num(c.b))
		reckoned(t, "Add("+c.a+", "+c.b+")", got, ok, c.want)
		got, ok = dec.Add(num(c.b), num(c.a))
		reckoned(t, "Add("+c.b+", "+c.a+")", got, ok, c.want)
	}
}

func TestP23Sub(t *testing.T) {
	for _, c := range []struct{ a, b, want string }{
		{"1", "1.00", "0.00"},
		{"-1.00", "-1", "0.00"},
		{"0", "0", "0"},
		{"0", "0.00", "0.00"},
		{"0", "1.5", "-1.5"},
		{"1.5", "0", "1.5"},
		{"3", "5", "-2"},
		{"5", "3", "2"},
		{"-3", "5", "-8"},
		{"3", "-5", "8"},
		{"1E50", "1", ten33 + "E17"},
		{"1", "1E50", "-" + ten33 + "E17"},
		{"1E33", "0.01", ten33},
		{"1E33", "0.05", ten33},
		{"1E33", "0.06", "999999999999999999999999999999999.9"},
		{"1E33", "0.1", "999999999999999999999999999999999.9"},
		{"-1E-6176", "1E-6176", "-2E-6176"},
		{"-" + nines34 + "E6111", "1E6111", ""},
		{nines34 + "E6111", "-5E6110", ""},
		{nines34 + "E6111", nines34 + "E6111", "0E6111"},
	} {
		got, ok := dec.Sub(num(c.a), num(c.b))
		reckoned(t, "Sub("+c.a+", "+c.b+")", got, ok, c.want)
	}
}

func TestP23Mul(t *testing.T) {
	for _, c := range []struct{ a, b, want string }{
		{"1.20", "3", "3.60"},
		{"1.20", "-3", "-3.60"},
		{"-1.20", "-3", "3.60"},
		{"0", "-3", "0"},
		{"-0.5", "0.00", "0.000"},
		{"0E6111", "0E6111", "0E6111"},
		{"0E-6176", "-1E-6176", "0E-6176"},
		{"0E-6176", nines34 + "E6111", "0E-65"},
		{nines34, "1", nines34},
		{nines34, "10", nines34 + "E1"},
		{nines34, nines34, "9999999999999999999999999999999998E34"},
		{"-" + nines34, nines34 + "E3", "-9999999999999999999999999999999998E37"},
		{"3333333333333333333333333333333335", "3", "1000000000000000000000000000000000E1"},
		{"3333333333333333333333333333333333", "3", nines34},
		{"1000000000000000000000000000000001", "1.5", "1500000000000000000000000000000002"},
		{"1000000000000000000000000000000003", "1.5", "1500000000000000000000000000000004"},
		{"1E-6176", "1E-1", "0E-6176"},
		{"1E-6176", "0.5", "0E-6176"},
		{"1E-6176", "0.6", "1E-6176"},
		{"-3E-6176", "0.5", "-2E-6176"},
		{"1E-6176", "1E-6176", "0E-6176"},
		{"-1E-3088", "1E-3088", "-1E-6176"},
		{nines34 + "E-6176", "1E-34", "1E-6176"},
		{nines34 + "E-6176", "1E-35", "0E-6176"},
		{"1E6111", "1", "1E6111"},
		{"1E6111", "1E1", ten33 + "E6079"},
		{"1E6111", "-10", "-10E6111"},
		{"1E6111", "1E33", ten33 + "E6111"},
		{"1E6111", "1E34", ""},
		{"-7E3056", "2E3056", "-14" + ten33[2:] + "E6080"},
		{"1E6000", "1E6000", ""},
		{"-" + nines34 + "E6111", nines34 + "E6111", ""},
		{nines34 + "E6111", "10", ""},
		{nines34 + "E6111", "1.0", nines34 + "E6111"},
		{"0E6111", nines34 + "E6111", "0E6111"},
	} {
		got, ok := dec.Mul(num(c.a), num(c.b))
		reckoned(t, "Mul("+c.a+", "+c.b+")", got, ok, c.want)
		got, ok = dec.Mul(num(c.b), num(c.a))
		reckoned(t, "Mul("+c.b+", "+c.a+")", got, ok, c.want)
	}
}

func TestP23Cmp(t *testing.T) {
	// Those in one row are of the same size, and below those of the next one.
	rows := [][]string{
		{"-" + nines34 + "E6111"},
		{"-1E6111", "-" + ten33 + "E6078"},
		{"-1E40"},
		{"-1.5", "-1.50", "-15E-1"},
		{"-1", "-1.0"},
		{"-1E-6176"},
		{"0", "0.00", "0E6111", "0E-6176"},
		{"1E-6176"},
		{"1E-39"},
		{"0.9999999999999999999999999999999999"},
		{"1", "1.0", "1.00", ten33 + "E-33"},
		{"1.000000000000000000000000000000001"},
		{"9"},
		{"10", "1E1", "10.0"},
		{nines34},
		{"1E34", ten33 + "E1"},
		{"1E38"},
		{"1E39", "10E38"},
		{"1E40"},
		{"9E6110"},
		{"1E6111"},
		{nines34 + "E6111"},
	}
	for i, row := range rows {
		for j, other := range rows {
			want := min(max(i-j, -1), 1)
			for _, a := range row {
				for _, b := range other {
					if got := dec.Cmp(num(a), num(b)); got != want {
						t.Errorf("Cmp(%s, %s) = %d", a, b, got)
					}
				}
			}
		}
	}
}

// byTheWords holds all calls of two numbers against the model.
func byTheWords(t *testing.T, a, b dec.Dec) {
	t.Helper()
	want, may := addModel(a, b)
	if got, ok := dec.Add(a, b); got != want || ok != may {
		t.Errorf("Add(%v, %v) = %v, %v, not %v, %v", a, b, got, ok, want, may)
	}
	if got, ok := dec.Sub(a, dec.Neg(b)); got != want || ok != may {
		t.Errorf("Sub(%v, less %v) = %v, %v, not %v, %v", a, b, got, ok, want, may)
	}
	want, may = mulModel(a, b)
	if got, ok := dec.Mul(a, b); got != want || ok != may {
		t.Errorf("Mul(%v, %v) = %v, %v, not %v, %v", a, b, got, ok, want, may)
	}
	if got, want := dec.Cmp(a, b), cmpModel(a, b); got != want {
		t.Errorf("Cmp(%v, %v) = %d, not %d", a, b, got, want)
	}
}

func TestP23EdgesByTheWords(t *testing.T) {
	r := rand.New(rand.NewSource(6))
	all := edges()
	for _, a := range all {
		byTheWords(t, a, a)
		byTheWords(t, a, dec.Neg(a))
		for range 10 {
			byTheWords(t, a, all[r.Intn(len(all))])
		}
	}
}

func TestP23ByTheWords(t *testing.T) {
	r := rand.New(rand.NewSource(7))
	for _, middle := range []int{0, api.MinExp, api.MaxExp, api.MinExp / 2, api.MaxExp / 2} {
		for range 6000 {
			byTheWords(t, someDec(r, middle), someDec(r, middle))
		}
	}
}

// With each distance of the exponents, up to where one number is lost in the other, a sum and a difference that stand about half-way.
func TestP23EachDistance(t *testing.T) {
	highs := []string{"1", "2", "15", ten33, "1000000000000000000000000000000001", nines34}
	lows := []string{"1", "5", "50", "14999995", "1499999999999999999999999999999999", "4999999999999999999999999999999999", "5000000000000000000000000000000000", "5000000000000000000000000000000001", nines34}
	for apart := range 110 {
		for _, high := range highs {
			for _, low := range lows {
				a, b := num(high), num(low)
				a.Exp = apart
				byTheWords(t, a, b)
				byTheWords(t, dec.Neg(a), b)
				byTheWords(t, b, dec.Neg(a))
			}
		}
	}
}
