package civil_test

import (
	"math"
	"math/rand"
	"testing"

	"casuist/civil"
)

func TestP62Number(t *testing.T) {
	for _, x := range []struct {
		d civil.Date
		n int
	}{
		{day(1970, 1, 1), 0},
		{day(1970, 1, 2), 1},
		{day(1969, 12, 31), -1},
		{day(1971, 1, 1), 365},
		{day(1973, 1, 1), 1096},
		{day(1969, 1, 1), -365},
		{day(1968, 1, 1), -731},
		{day(2000, 2, 28), 11015},
		{day(2000, 2, 29), 11016},
		{day(2000, 3, 1), 11017},
		{day(2024, 2, 29), 19782},
		{day(1582, 10, 15), -141427},
		{day(1, 1, 1), -719162},
		{day(0, 12, 31), -719163},
		{day(0, 3, 1), -719468},
		{day(0, 2, 29), -719469},
		{day(0, 1, 1), -719528},
		{day(-1, 12, 31), -719529},
		{day(-1, 1, 1), -719893},
		{day(2370, 1, 1), 146097},
		{day(1570, 1, 1), -146097},
	} {
		if n, ok := civil.Number(x.d); n != x.n || !ok {
			t.Errorf("Number(%v) = %d, %v, not %d", x.d, n, ok, x.n)
		}
		if d, ok := civil.Of(x.n); d != x.d || !ok {
			t.Errorf("Of(%d) = %v, %v, not %v", x.n, d, ok, x.d)
		}
	}
}

func TestP62FirstAndLastNumber(t *testing.T) {
	for _, x := range []struct {
		d civil.Date
		n int
	}{
		{firstDay(), firstNumber},
		{day(-999999999, 1, 2), firstNumber + 1},
		{day(-999999999, 12, 31), firstNumber + 364},
		{day(-999999998, 1, 1), firstNumber + 365},
		{day(999999999, 1, 1), lastNumber - 364},
		{day(999999999, 12, 30), lastNumber - 1},
		{lastDay(), lastNumber},
	} {
		if n, ok := civil.Number(x.d); n != x.n || !ok {
			t.Errorf("Number(%v) = %d, %v, not %d", x.d, n, ok, x.n)
		}
		if d, ok := civil.Of(x.n); d != x.d || !ok {
			t.Errorf("Of(%d) = %v, %v, not %v", x.n, d, ok, x.d)
		}
	}
}

func TestP62OfNoDay(t *testing.T) {
	for _, n := range []int{firstNumber - 1, lastNumber + 1, firstNumber - 365, lastNumber + 366, 1 << 40, -1 << 40, 1 << 53, -1 << 53, 1 << 62, -1 << 62, math.MinInt, math.MinInt + 1, math.MinInt + 719528, math.MaxInt, math.MaxInt - 1, math.MaxInt - 719528} {
		if d, ok := civil.Of(n); d != (civil.Date{}) || ok {
			t.Errorf("Of(%d) = %v, %v", n, d, ok)
		}
	}
	// Where a product of the number and a small one goes round, a day may not come of it.
	for by := 2; by <= 1000; by++ {
		for _, n := range []int{math.MaxInt / by, math.MinInt / by, math.MaxInt/by*2 + by, math.MinInt/by*2 - by} {
			if n >= firstNumber && n <= lastNumber {
				continue
			}
			if d, ok := civil.Of(n); d != (civil.Date{}) || ok {
				t.Errorf("Of(%d) = %v, %v", n, d, ok)
			}
		}
	}
}

func TestP62Weekday(t *testing.T) {
	for _, x := range []struct {
		d civil.Date
		n int
	}{
		{day(1970, 1, 1), 4}, {day(1970, 1, 2), 5}, {day(1970, 1, 3), 6}, {day(1970, 1, 4), 7}, {day(1970, 1, 5), 1}, {day(1970, 1, 6), 2}, {day(1970, 1, 7), 3}, {day(1970, 1, 8), 4},
		{day(1969, 12, 31), 3}, {day(1969, 12, 30), 2}, {day(1969, 12, 29), 1}, {day(1969, 12, 28), 7}, {day(1969, 12, 27), 6}, {day(1969, 12, 26), 5}, {day(1969, 12, 25), 4},
		{day(2024, 2, 29), 4}, {day(2000, 1, 1), 6}, {day(1900, 1, 1), 1}, {day(0, 1, 1), 6}, {day(0, 2, 29), 2}, {day(-1, 12, 31), 5}, {day(1, 1, 1), 1},
		{firstDay(), 1}, {lastDay(), 5},
	} {
		if n := civil.Weekday(x.d); n != x.n {
			t.Errorf("Weekday(%v) = %d, not %d", x.d, n, x.n)
		}
	}
}

func TestP62Yearday(t *testing.T) {
	for _, x := range []struct {
		d civil.Date
		n int
	}{
		{day(2023, 1, 1), 1}, {day(2023, 1, 31), 31}, {day(2023, 2, 1), 32}, {day(2023, 2, 28), 59}, {day(2023, 3, 1), 60}, {day(2023, 12, 31), 365},
		{day(2024, 2, 28), 59}, {day(2024, 2, 29), 60}, {day(2024, 3, 1), 61}, {day(2024, 12, 31), 366},
		{day(1900, 12, 31), 365}, {day(2000, 12, 31), 366}, {day(0, 12, 31), 366}, {day(-4, 3, 1), 61}, {day(-100, 3, 1), 60},
		{firstDay(), 1}, {day(-999999999, 12, 31), 365}, {day(999999999, 1, 1), 1}, {lastDay(), 365},
	} {
		if n := civil.Yearday(x.d); n != x.n {
			t.Errorf("Yearday(%v) = %d, not %d", x.d, n, x.n)
		}
	}
}

func TestP62Week(t *testing.T) {
	for _, x := range []struct {
		d civil.Date
		n int
	}{
		{day(2021, 1, 3), 53}, {day(2021, 1, 4), 1}, {day(2020, 12, 31), 53}, {day(2020, 12, 28), 53}, {day(2020, 12, 27), 52},
		{day(2019, 12, 29), 52}, {day(2019, 12, 30), 1}, {day(2019, 12, 31), 1}, {day(2020, 1, 1), 1}, {day(2020, 1, 5), 1}, {day(2020, 1, 6), 2},
		{day(2022, 1, 1), 52}, {day(2022, 1, 2), 52}, {day(2022, 1, 3), 1}, {day(2023, 1, 1), 52}, {day(2024, 12, 29), 52}, {day(2024, 12, 30), 1},
		{day(2015, 12, 31), 53}, {day(2016, 1, 3), 53}, {day(2004, 12, 31), 53}, {day(2005, 1, 1), 53}, {day(2005, 1, 2), 53}, {day(2005, 1, 3), 1},
		{day(1970, 1, 1), 1}, {day(1969, 12, 29), 1}, {day(1969, 12, 28), 52}, {day(2024, 2, 29), 9}, {day(0, 1, 2), 52}, {day(0, 1, 3), 1},
	} {
		if n := civil.Week(x.d); n != x.n {
			t.Errorf("Week(%v) = %d, not %d", x.d, n, x.n)
		}
	}
}

// At both ends of the years that may be, a week may reach into one that may not.
func TestP62WeekAtTheEnds(t *testing.T) {
	if n := civil.Week(firstDay()); n != 1 {
		t.Errorf("Week(%v) = %d", firstDay(), n)
	}
	if n := civil.Week(lastDay()); n != 52 {
		t.Errorf("Week(%v) = %d", lastDay(), n)
	}
	for n := 1; n <= 31; n++ {
		for _, d := range []civil.Date{day(-999999999, 1, n), day(-999999999, 12, n), day(999999999, 1, n), day(999999999, 12, n)} {
			checkDay(t, d)
		}
	}
}

// Year after year the weeks go over from one into the next.
func TestP62WeekAtTheYearsEnds(t *testing.T) {
	for _, from := range []int{-2100, -500, -10, 1800, 1990} {
		for y := from; y < from+420; y++ {
			for n := 1; n <= 8; n++ {
				checkDay(t, day(y, 1, n))
				checkDay(t, day(y, 12, 32-n))
			}
		}
	}
	for _, y := range edgeYears() {
		for n := 1; n <= 8; n++ {
			checkDay(t, day(y, 1, n))
			checkDay(t, day(y, 12, 32-n))
		}
	}
}

// After 400 years the days come again as they came: one such turn, day by day, counted on.
func TestP62DayByDay(t *testing.T) {
	for _, from := range []civil.Date{day(-999999999, 1, 1), day(-201, 1, 1), day(1969, 1, 1), day(999999599, 1, 1)} {
		n, ok := civil.Number(from)
		if !ok {
			t.Fatalf("Number(%v)", from)
		}
		weekday := weekdayModel(timeOf(from))
		for y := from.Year; y < from.Year+401; y++ {
			yearday := 1
			for m := 1; m <= 12; m++ {
				for d := 1; d <= lengthModel(y, m); d++ {
					it := day(y, m, d)
					got, ok := civil.Number(it)
					back, may := civil.Of(n)
					if got != n || !ok || back != it || !may || civil.Weekday(it) != weekday || civil.Yearday(it) != yearday || civil.Week(it) != weekModel(timeOf(it)) {
						t.Fatalf("%v: Number %d, Of(%d) %v, Weekday %d, Yearday %d, Week %d", it, got, n, back, civil.Weekday(it), civil.Yearday(it), civil.Week(it))
					}
					n, yearday, weekday = n+1, yearday+1, weekday%7+1
				}
			}
		}
	}
}

func TestP62ByTheWords(t *testing.T) {
	r := rand.New(rand.NewSource(62))
	for range 50000 {
		checkDay(t, someDay(r))
	}
	for range 50000 {
		n := firstNumber + int(r.Int63n(lastNumber-firstNumber+1))
		d, ok := civil.Of(n)
		if want := dateOf(timeOf(day(1970, 1, 1)).AddDate(0, 0, n)); d != want || !ok {
			t.Errorf("Of(%d) = %v, %v, not %v", n, d, ok, want)
		}
	}
}

func TestP62OfNoSuchDay(t *testing.T) {
	for _, d := range []civil.Date{{}, day(2023, 2, 29), day(1900, 2, 29), day(2024, 2, 30), day(2024, 4, 31), day(2024, 13, 1), day(2024, 0, 1), day(2024, 1, 0), day(2024, 1, 32), day(2024, -1, -1), day(1000000000, 1, 1), day(-1000000000, 12, 31), day(math.MaxInt, math.MaxInt, math.MaxInt), day(math.MinInt, math.MinInt, math.MinInt)} {
		checkNone(t, d)
	}
}
