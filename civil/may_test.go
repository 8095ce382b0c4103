package civil_test

import (
	"math"
	"math/rand"
	"testing"

	"casuist/api"
	"casuist/civil"
)

func TestP61Leap(t *testing.T) {
	for _, y := range []int{0, 4, 8, 96, 104, 400, 800, 1600, 1996, 2000, 2004, 2024, 2400, 999999600, 999999996, -4, -8, -96, -104, -400, -800, -2000, -999999600, -999999996, math.MinInt} {
		if !civil.Leap(y) {
			t.Errorf("%d is a leap year", y)
		}
	}
	for _, y := range []int{1, 2, 3, 5, 99, 100, 101, 200, 300, 500, 1700, 1800, 1900, 2001, 2002, 2003, 2100, 2200, 2300, 999999900, 999999999, -1, -2, -3, -5, -99, -100, -200, -300, -500, -1900, -999999900, -999999999} {
		if civil.Leap(y) {
			t.Errorf("%d is no leap year", y)
		}
	}
}

func TestP61LeapByTheWords(t *testing.T) {
	for y := -2500; y <= 2500; y++ {
		if got := civil.Leap(y); got != leapModel(y) {
			t.Errorf("Leap(%d) = %v", y, got)
		}
	}
	for _, y := range edgeInts() {
		for d := -4; d <= 4; d++ {
			if got := civil.Leap(y + d); got != leapModel(y+d) {
				t.Errorf("Leap(%d) = %v", y+d, got)
			}
		}
	}
	r := rand.New(rand.NewSource(61))
	for range 2000 {
		y := int(r.Uint64()) >> r.Intn(60)
		if got := civil.Leap(y); got != leapModel(y) {
			t.Errorf("Leap(%d) = %v", y, got)
		}
	}
}

func TestP61Length(t *testing.T) {
	common := [12]int{31, 28, 31, 30, 31, 30, 31, 31, 30, 31, 30, 31}
	for _, y := range []int{1, 1900, 2023, 2100, -1, -100, -999999999, 999999999} {
		for i, want := range common {
			if got := civil.Length(y, i+1); got != want {
				t.Errorf("Length(%d, %d) = %d, not %d", y, i+1, got, want)
			}
		}
	}
	common[1] = 29
	for _, y := range []int{0, 4, 2000, 2024, -4, -400, -999999996, 999999996} {
		for i, want := range common {
			if got := civil.Length(y, i+1); got != want {
				t.Errorf("Length(%d, %d) = %d, not %d", y, i+1, got, want)
			}
		}
	}
}

func TestP61LengthOfNoMonth(t *testing.T) {
	for _, y := range []int{2023, 2024, 0, -4, math.MinInt, math.MaxInt} {
		for _, m := range []int{0, 13, -1, -2, -12, 14, 24, 100, math.MinInt, math.MaxInt} {
			if got := civil.Length(y, m); got != 0 {
				t.Errorf("Length(%d, %d) = %d", y, m, got)
			}
		}
	}
}

// A month has its days by the year's number alone, also where the year may not be.
func TestP61LengthByTheWords(t *testing.T) {
	for _, y := range append(edgeInts(), edgeYears()...) {
		for _, m := range edgeInts() {
			if got, want := civil.Length(y, m), lengthModel(y, m); got != want {
				t.Errorf("Length(%d, %d) = %d, not %d", y, m, got, want)
			}
		}
	}
}

// Each month's first and last day may be, the ones ahead of and behind them may not.
func TestP61MayAtTheMonthsEnds(t *testing.T) {
	for _, y := range []int{-999999999, -999999996, -400, -100, -4, -1, 0, 1, 4, 100, 400, 1900, 2000, 2023, 2024, 999999996, 999999999} {
		for m := 1; m <= 12; m++ {
			length := lengthModel(y, m)
			for _, d := range []civil.Date{day(y, m, 1), day(y, m, 15), day(y, m, length)} {
				if !d.May() {
					t.Errorf("%v: there is such a day", d)
				}
			}
			for _, n := range []int{0, -1, -length, length + 1, 32, 100, math.MinInt, math.MaxInt} {
				checkNone(t, day(y, m, n))
			}
		}
	}
}

func TestP61MayInFebruary(t *testing.T) {
	for _, y := range []int{2024, 2000, 1600, 400, 4, 0, -4, -400, 999999996, -999999996} {
		if !day(y, 2, 29).May() {
			t.Errorf("there is a 29th of February %d", y)
		}
		checkNone(t, day(y, 2, 30))
	}
	for _, y := range []int{2023, 2100, 1900, 100, 1, -1, -100, 999999999, -999999999} {
		if !day(y, 2, 28).May() {
			t.Errorf("there is a 28th of February %d", y)
		}
		checkNone(t, day(y, 2, 29))
	}
}

func TestP61MayAtTheYearsEnds(t *testing.T) {
	for _, d := range []civil.Date{firstDay(), lastDay(), day(-api.MaxYear, 12, 31), day(api.MaxYear, 1, 1), day(0, 1, 1), day(0, 12, 31), day(-1, 12, 31)} {
		if !d.May() {
			t.Errorf("%v: there is such a day", d)
		}
	}
	for _, y := range []int{-api.MaxYear - 1, api.MaxYear + 1, -api.MaxSpan, api.MaxSpan, math.MinInt, math.MaxInt} {
		for _, md := range [][2]int{{1, 1}, {2, 28}, {2, 29}, {6, 15}, {12, 31}} {
			checkNone(t, day(y, md[0], md[1]))
		}
	}
}

func TestP61MayInNoMonth(t *testing.T) {
	for _, y := range []int{-api.MaxYear, -4, 0, 1970, 2024, api.MaxYear} {
		for _, m := range []int{0, 13, -1, -12, 25, math.MinInt, math.MaxInt} {
			for _, d := range []int{0, 1, 28, 31, -1} {
				checkNone(t, day(y, m, d))
			}
		}
	}
	checkNone(t, civil.Date{})
}

// Any numbers: the calls end, and tell what the words say.
func TestW1AnyDates(t *testing.T) {
	for _, y := range append(edgeInts(), edgeYears()...) {
		for _, m := range edgeInts() {
			for _, d := range edgeInts() {
				checkDay(t, day(y, m, d))
			}
		}
	}
	r := rand.New(rand.NewSource(1))
	for range 20000 {
		checkDay(t, day(int(r.Uint64())>>r.Intn(64), int(r.Uint64())>>(48+r.Intn(16)), int(r.Uint64())>>(48+r.Intn(16))))
	}
}
