package equal_test

import (
	"cmp"
	"math/rand"
	"strings"
	"testing"

	"casuist/api"
	"casuist/dec"
	"casuist/equal"
	"casuist/value"
)

// checkCmp holds two values that can be held against one another.
func checkCmp(t *testing.T, x, y thing, want int) {
	t.Helper()
	a, b := x.made(), y.made()
	if c, ok := equal.Cmp(a, b); c != want || !ok {
		t.Errorf("Cmp(%.100v, %.100v) = %d, %v, not %d", x, y, c, ok, want)
	}
	if got := equal.Less(a, b); got != yesIf(want < 0) {
		t.Errorf("Less(%.100v, %.100v) = %d", x, y, got)
	}
	if got := equal.LessOr(a, b); got != yesIf(want <= 0) {
		t.Errorf("LessOr(%.100v, %.100v) = %d", x, y, got)
	}
}

// checkNoCmp holds two that can't, each way round.
func checkNoCmp(t *testing.T, x, y thing) {
	t.Helper()
	for _, p := range [][2]value.Value{{x.made(), y.made()}, {y.made(), x.made()}} {
		if c, ok := equal.Cmp(p[0], p[1]); c != 0 || ok {
			t.Errorf("Cmp of %.100v and %.100v = %d, %v", x, y, c, ok)
		}
		if less, lessOr := equal.Less(p[0], p[1]), equal.LessOr(p[0], p[1]); less != api.Unknown || lessOr != api.Unknown {
			t.Errorf("Less of %.100v and %.100v = %d, LessOr = %d", x, y, less, lessOr)
		}
	}
}

func TestP122Rows(t *testing.T) {
	for _, r := range rows() {
		for i, group := range r {
			for j, other := range r {
				for _, x := range group {
					for _, y := range other {
						checkCmp(t, x, y, cmp.Compare(i, j))
					}
				}
			}
		}
	}
}

// Of the longest texts there are, each byte counts.
func TestP122LongTexts(t *testing.T) {
	long := strings.Repeat("x", api.MaxText-1)
	of := each(text, "", "x", long, long+"w", long+"x", "y")
	for i, x := range of {
		for j, y := range of {
			checkCmp(t, x[0], y[0], cmp.Compare(i, j))
			checkSame(t, x[0], y[0], yesIf(i == j))
		}
	}
}

func TestP122UnlikeRows(t *testing.T) {
	all := rows()
	for i, r := range all {
		for _, other := range all[:i] {
			for _, x := range r {
				for _, y := range other {
					checkNoCmp(t, x[0], y[0])
				}
			}
		}
	}
}

func TestP122Unordered(t *testing.T) {
	for _, x := range unordered() {
		checkNoCmp(t, x, x)
		for _, y := range few() {
			checkNoCmp(t, x, y)
		}
	}
}

func TestP122ByHand(t *testing.T) {
	one, two := whole(1), whole(2)
	checkCmp(t, one, two, -1)
	checkCmp(t, two, one, 1)
	checkCmp(t, one, num("10", -1), 0)
	checkCmp(t, whole(-2), whole(-1), -1)
	checkCmp(t, whole(-1), num("-100", -2), 0)
	checkCmp(t, num("0", -6176), num("0", 6111), 0)
	checkCmp(t, text("10"), text("9"), -1)
	checkCmp(t, text("a"), text("aa"), -1)
	checkCmp(t, text("\uffff"), text("\U00010000"), -1)
	checkCmp(t, text("B"), text("a"), -1)
	checkCmp(t, date(-1, 12, 31), date(-1, 1, 1), 1)
	checkCmp(t, clockAt(36000, 3600), clockAt(32400, 0), 0)
	checkCmp(t, clockAt(1800, 3600), clockAt(0, 0), -1)
	checkCmp(t, clockAt(3600, 3600).of(1970, 1, 1), clockAt(0, 0).of(1970, 1, 1), 0)
	checkCmp(t, clockAt(0, 64800).of(2024, 3, 1), clockAt(43200, 0).of(2024, 2, 29), -1)
	checkCmp(t, days(-most), days(most), -1)
	checkCmp(t, months(most), months(-most), 1)
	checkNoCmp(t, one, text("1"))
	checkNoCmp(t, days(0), months(0))
	checkNoCmp(t, date(2024, 1, 1), clockTime(0).of(2024, 1, 1))
	checkNoCmp(t, clockTime(0), clockAt(0, 0))
	checkNoCmp(t, clockTime(0).of(2024, 1, 1), clockAt(0, 0).of(2024, 1, 1))
	checkNoCmp(t, clockTime(0), clockTime(0).of(2024, 1, 1))
	checkNoCmp(t, boolean(false), boolean(true))
	checkNoCmp(t, boolean(true), boolean(true))
	checkNoCmp(t, null(), null())
	checkNoCmp(t, null(), one)
	checkNoCmp(t, list(one), list(one))
	checkNoCmp(t, list(), list())
	checkNoCmp(t, list(one), one)
	checkNoCmp(t, span(one, two, "[]"), one)
}

// What is held are values, not what they were made of: what may not be is null.
func TestP122NoValues(t *testing.T) {
	one := value.Int(1)
	for _, v := range []value.Value{{}, value.Num(dec.Dec{Neg: true}), value.Text("\xff"), value.Days(most + 1)} {
		for _, p := range [][2]value.Value{{v, one}, {one, v}, {v, v}} {
			if c, ok := equal.Cmp(p[0], p[1]); c != 0 || ok || equal.Less(p[0], p[1]) != api.Unknown || equal.LessOr(p[0], p[1]) != api.Unknown {
				t.Errorf("Cmp of kinds %d and %d = %d, %v", p[0].Kind(), p[1].Kind(), c, ok)
			}
		}
	}
}

func TestP122ByTheWords(t *testing.T) {
	all := rows()
	r := rand.New(rand.NewSource(122))
	for range 10000 {
		of := pick(r, all)
		checkPair(t, someEnd(r, of), someEnd(r, of))
	}
	for range 3000 {
		x, y := someNumber(r), someNumber(r)
		checkPair(t, x, y)
	}
}

// someNumber is one of few digits and exponents, so that sizes come again.
func someNumber(r *rand.Rand) thing {
	x := num(pick(r, []string{"0", "1", "10", "100", "2", "20", "99", "101"}), r.Intn(5)-2)
	x.num.Neg = x.num.Coef.Lo != 0 && r.Intn(2) == 0
	return x
}
