package civil_test

import (
	"math"
	"math/rand"
	"testing"

	"casuist/api"
	"casuist/civil"
)

// mostMonths is how many months lie between the first month there is and the last one.
const mostMonths = 2*999999999*12 + 11

func TestP63Months(t *testing.T) {
	for _, x := range []struct {
		d    civil.Date
		n    int
		want civil.Date
	}{
		{day(2024, 1, 15), 0, day(2024, 1, 15)},
		{day(2024, 1, 15), 1, day(2024, 2, 15)},
		{day(2024, 1, 15), 11, day(2024, 12, 15)},
		{day(2024, 1, 15), 12, day(2025, 1, 15)},
		{day(2024, 1, 15), -1, day(2023, 12, 15)},
		{day(2024, 1, 15), -12, day(2023, 1, 15)},
		{day(2024, 1, 15), -13, day(2022, 12, 15)},
		{day(2024, 12, 15), 1, day(2025, 1, 15)},
		{day(2024, 12, 15), -11, day(2024, 1, 15)},
		{day(2024, 12, 15), -12, day(2023, 12, 15)},
		{day(2024, 6, 15), 1200, day(2124, 6, 15)},
		{day(2024, 6, 15), -1200, day(1924, 6, 15)},
	} {
		if got, ok := civil.Months(x.d, x.n); got != x.want || !ok {
			t.Errorf("Months(%v, %d) = %v, %v, not %v", x.d, x.n, got, ok, x.want)
		}
	}
}

// Onto a month that has not as many days, it is the last one.
func TestP63MonthsOntoShorterOnes(t *testing.T) {
	for _, x := range []struct {
		d    civil.Date
		n    int
		want civil.Date
	}{
		{day(2023, 1, 31), 1, day(2023, 2, 28)},
		{day(2024, 1, 31), 1, day(2024, 2, 29)},
		{day(2024, 1, 30), 1, day(2024, 2, 29)},
		{day(2024, 1, 29), 1, day(2024, 2, 29)},
		{day(2023, 1, 29), 1, day(2023, 2, 28)},
		{day(2023, 1, 28), 1, day(2023, 2, 28)},
		{day(2023, 3, 31), -1, day(2023, 2, 28)},
		{day(2024, 3, 31), -1, day(2024, 2, 29)},
		{day(2024, 1, 31), 3, day(2024, 4, 30)},
		{day(2024, 1, 31), 5, day(2024, 6, 30)},
		{day(2024, 1, 31), 8, day(2024, 9, 30)},
		{day(2024, 1, 31), 10, day(2024, 11, 30)},
		{day(2024, 1, 31), 2, day(2024, 3, 31)},
		{day(2024, 12, 31), -1, day(2024, 11, 30)},
		{day(2024, 2, 29), 12, day(2025, 2, 28)},
		{day(2024, 2, 29), -12, day(2023, 2, 28)},
		{day(2024, 2, 29), 48, day(2028, 2, 29)},
		{day(2024, 2, 29), 1, day(2024, 3, 29)},
		{day(2000, 2, 29), 1200, day(2100, 2, 28)},
		{day(2000, 2, 29), 4800, day(2400, 2, 29)},
		{day(2023, 2, 28), 12, day(2024, 2, 28)},
		{day(2023, 4, 30), 1, day(2023, 5, 30)},
		{day(1, 1, 31), -11, day(0, 2, 29)},
		{day(-1, 1, 31), 13, day(0, 2, 29)},
		{day(-4, 1, 31), 1, day(-4, 2, 29)},
		{day(-5, 1, 31), 1, day(-5, 2, 28)},
		{day(999999999, 1, 31), 1, day(999999999, 2, 28)},
		{day(-999999999, 3, 31), -1, day(-999999999, 2, 28)},
	} {
		if got, ok := civil.Months(x.d, x.n); got != x.want || !ok {
			t.Errorf("Months(%v, %d) = %v, %v, not %v", x.d, x.n, got, ok, x.want)
		}
	}
}

// There is a year 0, and behind it as ahead of it the months are counted alike.
func TestP63MonthsAcrossTheYearNought(t *testing.T) {
	for _, x := range []struct {
		d    civil.Date
		n    int
		want civil.Date
	}{
		{day(0, 1, 1), -1, day(-1, 12, 1)},
		{day(-1, 12, 1), 1, day(0, 1, 1)},
		{day(0, 12, 31), 1, day(1, 1, 31)},
		{day(1, 1, 31), -1, day(0, 12, 31)},
		{day(1, 1, 1), -13, day(-1, 12, 1)},
		{day(-1, 12, 1), 13, day(1, 1, 1)},
		{day(-1, 1, 1), -1, day(-2, 12, 1)},
		{day(-2, 12, 1), -11, day(-2, 1, 1)},
		{day(-2, 12, 1), -12, day(-3, 12, 1)},
		{day(-2, 6, 1), 48, day(2, 6, 1)},
		{day(2, 6, 1), -48, day(-2, 6, 1)},
		{day(2024, 1, 1), -24288, day(0, 1, 1)},
		{day(2024, 1, 1), -24289, day(-1, 12, 1)},
	} {
		if got, ok := civil.Months(x.d, x.n); got != x.want || !ok {
			t.Errorf("Months(%v, %d) = %v, %v, not %v", x.d, x.n, got, ok, x.want)
		}
	}
}

func TestP63MonthsAtTheYearsEnds(t *testing.T) {
	for _, x := range []struct {
		d    civil.Date
		n    int
		want civil.Date
	}{
		{day(999999999, 11, 30), 1, day(999999999, 12, 30)},
		{lastDay(), 0, lastDay()},
		{day(-999999999, 2, 28), -1, day(-999999999, 1, 28)},
		{firstDay(), 0, firstDay()},
		{firstDay(), mostMonths, day(999999999, 12, 1)},
		{lastDay(), -mostMonths, day(-999999999, 1, 31)},
		{day(0, 1, 1), 11999999999, day(999999999, 12, 1)},
		{day(0, 1, 1), -11999999988, day(-999999999, 1, 1)},
	} {
		if got, ok := civil.Months(x.d, x.n); got != x.want || !ok {
			t.Errorf("Months(%v, %d) = %v, %v, not %v", x.d, x.n, got, ok, x.want)
		}
	}
	for _, x := range []struct {
		d civil.Date
		n int
	}{
		{day(999999999, 12, 1), 1}, {lastDay(), 1}, {day(999999999, 1, 1), 12}, {day(999999998, 12, 1), 13}, {lastDay(), 12},
		{firstDay(), -1}, {day(-999999999, 1, 31), -1}, {day(-999999999, 12, 1), -12}, {day(-999999998, 1, 1), -13},
		{firstDay(), mostMonths + 1}, {lastDay(), -mostMonths - 1}, {day(0, 1, 1), 12000000000}, {day(0, 1, 1), -11999999989},
	} {
		if got, ok := civil.Months(x.d, x.n); got != (civil.Date{}) || ok {
			t.Errorf("Months(%v, %d) = %v, %v", x.d, x.n, got, ok)
		}
	}
}

func TestP63MonthsFarBeyond(t *testing.T) {
	for _, d := range []civil.Date{firstDay(), lastDay(), day(0, 1, 1), day(0, 12, 31), day(1970, 1, 1), day(2024, 2, 29)} {
		for _, n := range []int{api.MaxSpan, -api.MaxSpan, api.MaxSpan + 1, -api.MaxSpan - 1, 1 << 60, -1 << 60, math.MaxInt, math.MaxInt - 11, math.MinInt, math.MinInt + 11} {
			if got, ok := civil.Months(d, n); got != (civil.Date{}) || ok {
				t.Errorf("Months(%v, %d) = %v, %v", d, n, got, ok)
			}
		}
	}
}

func TestP63MonthsOfNoDay(t *testing.T) {
	for _, d := range []civil.Date{{}, day(2023, 2, 29), day(2024, 2, 30), day(2024, 0, 1), day(2024, 13, 1), day(2024, 1, 0), day(2024, 4, 31), day(1000000000, 1, 1), day(-1000000000, 12, 1), day(math.MaxInt, 1, 1), day(2024, math.MaxInt, 1), day(2024, 1, math.MinInt)} {
		for _, n := range []int{0, 1, -1, 12, -12, 13, api.MaxSpan, -api.MaxSpan, math.MinInt, math.MaxInt} {
			if got, ok := civil.Months(d, n); got != (civil.Date{}) || ok {
				t.Errorf("Months(%v, %d) = %v, %v", d, n, got, ok)
			}
		}
	}
}

func TestP63MonthsByTheWords(t *testing.T) {
	for _, y := range []int{2023, 2024, 0, -1} {
		for m := 1; m <= 12; m++ {
			for d := 1; d <= lengthModel(y, m); d++ {
				for n := -30; n <= 30; n++ {
					checkMonths(t, day(y, m, d), n)
				}
			}
		}
	}
	for _, d := range []civil.Date{firstDay(), lastDay(), day(0, 1, 1), day(2024, 2, 29), day(2023, 2, 29)} {
		for _, n := range edgeInts() {
			for off := -13; off <= 13; off++ {
				checkMonths(t, d, n+off)
			}
		}
	}
	r := rand.New(rand.NewSource(63))
	for range 50000 {
		checkMonths(t, someDay(r), r.Intn(5000)-2500)
		checkMonths(t, someDay(r), r.Intn(2*mostMonths)-mostMonths)
		checkMonths(t, someDay(r), int(r.Uint64())>>r.Intn(64))
	}
}

func TestP63Cmp(t *testing.T) {
	for _, x := range []struct {
		a, b civil.Date
		want int
	}{
		{day(2024, 1, 2), day(2024, 1, 2), 0},
		{day(2024, 1, 1), day(2024, 1, 2), -1},
		{day(2024, 1, 2), day(2024, 2, 1), -1},
		{day(2023, 12, 31), day(2024, 1, 1), -1},
		{day(2023, 1, 31), day(2023, 2, 1), -1},
		{day(2022, 12, 31), day(2024, 1, 1), -1},
		{day(-1, 12, 31), day(0, 1, 1), -1},
		{day(-2, 1, 1), day(-1, 1, 1), -1},
		{day(-1, 1, 1), day(1, 1, 1), -1},
		{firstDay(), lastDay(), -1},
		{firstDay(), firstDay(), 0},
		{lastDay(), lastDay(), 0},
		// These are no days, and are held against each other as numbers.
		{civil.Date{}, civil.Date{}, 0},
		{day(2023, 2, 30), day(2023, 3, 1), -1},
		{day(2023, 99, 0), day(2024, -99, 0), -1},
		{day(2023, 1, 99), day(2023, 2, -99), -1},
		{day(math.MinInt, 1, 1), day(math.MaxInt, 1, 1), -1},
		{day(2024, math.MinInt, 1), day(2024, math.MaxInt, 1), -1},
		{day(2024, 1, math.MinInt), day(2024, 1, math.MaxInt), -1},
		{day(math.MinInt, math.MaxInt, math.MaxInt), day(math.MinInt+1, math.MinInt, math.MinInt), -1},
	} {
		if got := civil.Cmp(x.a, x.b); got != x.want {
			t.Errorf("Cmp(%v, %v) = %d", x.a, x.b, got)
		}
		if got := civil.Cmp(x.b, x.a); got != -x.want {
			t.Errorf("Cmp(%v, %v) = %d", x.b, x.a, got)
		}
	}
}

func TestP63CmpByTheWords(t *testing.T) {
	small := []int{math.MinInt, -1, 0, 1, 2, math.MaxInt}
	var all []civil.Date
	for _, y := range small {
		for _, m := range small {
			for _, d := range small {
				all = append(all, day(y, m, d))
			}
		}
	}
	for _, a := range all {
		for _, b := range all {
			if got, want := civil.Cmp(a, b), cmpModel(a, b); got != want {
				t.Errorf("Cmp(%v, %v) = %d, not %d", a, b, got, want)
			}
		}
	}
	r := rand.New(rand.NewSource(64))
	for range 20000 {
		a, b := someDay(r), someDay(r)
		if got, want := civil.Cmp(a, b), timeOf(a).Compare(timeOf(b)); got != want {
			t.Errorf("Cmp(%v, %v) = %d, not %d", a, b, got, want)
		}
	}
}
