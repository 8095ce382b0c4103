package span_test

import (
	"math/rand"
	"testing"

	"casuist/civil"
	"casuist/span"
)

func checkDateLater(t *testing.T, d civil.Date, n int, want civil.Date, may bool) {
	t.Helper()
	if got, ok := span.DateLater(d, n); got != want || ok != may {
		t.Errorf("DateLater(%v, %d) = %v, %v, not %v, %v", d, n, got, ok, want, may)
	}
}

func TestP103DateLater(t *testing.T) {
	for _, x := range []struct {
		d    civil.Date
		n    int
		want civil.Date
	}{
		{on(2024, 2, 29), 0, on(2024, 2, 29)},
		// Short of a day, a day, and one more.
		{on(2024, 2, 29), 1, on(2024, 2, 29)},
		{on(2024, 2, 29), 86399, on(2024, 2, 29)},
		{on(2024, 2, 29), 86400, on(2024, 3, 1)},
		{on(2024, 2, 29), 86401, on(2024, 3, 1)},
		{on(2024, 2, 29), 2*86400 - 1, on(2024, 3, 1)},
		{on(2024, 2, 29), 2 * 86400, on(2024, 3, 2)},
		// The same below 0: a second ahead of midnight is the day ahead.
		{on(2024, 2, 29), -1, on(2024, 2, 28)},
		{on(2024, 2, 29), -86399, on(2024, 2, 28)},
		{on(2024, 2, 29), -86400, on(2024, 2, 28)},
		{on(2024, 2, 29), -86401, on(2024, 2, 27)},
		{on(2024, 2, 29), -2 * 86400, on(2024, 2, 27)},
		// At the ends of months and years.
		{on(2024, 1, 31), 86400, on(2024, 2, 1)},
		{on(2024, 2, 1), -1, on(2024, 1, 31)},
		{on(2023, 2, 28), 86400, on(2023, 3, 1)},
		{on(2023, 3, 1), -1, on(2023, 2, 28)},
		{on(2024, 2, 28), 86400, on(2024, 2, 29)},
		{on(2024, 3, 1), -1, on(2024, 2, 29)},
		{on(1900, 2, 28), 86400, on(1900, 3, 1)},
		{on(2000, 2, 28), 86400, on(2000, 2, 29)},
		{on(2023, 12, 31), 86399, on(2023, 12, 31)},
		{on(2023, 12, 31), 86400, on(2024, 1, 1)},
		{on(2024, 1, 1), -1, on(2023, 12, 31)},
		{on(2023, 1, 1), 365 * 86400, on(2024, 1, 1)},
		{on(2024, 1, 1), 366 * 86400, on(2025, 1, 1)},
		{on(2024, 1, 1), 366*86400 - 1, on(2024, 12, 31)},
		{on(2025, 1, 1), -366 * 86400, on(2024, 1, 1)},
		{on(0, 1, 1), -1, on(-1, 12, 31)},
		{on(-1, 12, 31), 86400, on(0, 1, 1)},
		{on(1970, 1, 1), -1, on(1969, 12, 31)},
		// At the first and the last day.
		{first(), 0, first()},
		{first(), 86399, first()},
		{first(), 86400, on(-999999999, 1, 2)},
		{on(-999999999, 1, 2), -1, first()},
		{on(-999999999, 1, 2), -86400, first()},
		{last(), 0, last()},
		{last(), 86399, last()},
		{last(), -1, on(999999999, 12, 30)},
		{on(999999999, 12, 30), 86400, last()},
		{on(999999999, 12, 30), 2*86400 - 1, last()},
	} {
		checkDateLater(t, x.d, x.n, x.want, true)
	}
}

func TestP103DateLaterBeyondAllDays(t *testing.T) {
	for _, x := range []struct {
		d civil.Date
		n int
	}{
		{first(), -1},
		{first(), -86400},
		{first(), -most},
		{on(-999999999, 1, 2), -86401},
		{last(), 86400},
		{last(), 86401},
		{last(), most},
		{on(999999999, 12, 30), 2 * 86400},
	} {
		checkDateLater(t, x.d, x.n, civil.Date{}, false)
	}
}

func TestP103DateLaterByTheMost(t *testing.T) {
	for _, d := range []civil.Date{on(1970, 1, 1), on(2024, 2, 29), on(0, 1, 1)} {
		for _, n := range []int{most, most - 1, -most, -most + 1} {
			want, may := dateLaterModel(d, n)
			if !may {
				t.Fatalf("there is a day %d seconds behind %v", n, d)
			}
			checkDateLater(t, d, n, want, true)
		}
	}
	// 104249991374 days, 7 hours, 36 minutes and 32 seconds.
	checkDateLater(t, on(1970, 1, 1), most, on(285428751, 11, 12), true)
	checkDateLater(t, first(), most, on(-714573218, 11, 12), true)
	for _, d := range edgeDays() {
		for _, n := range tooLong() {
			checkDateLater(t, d, n, civil.Date{}, false)
		}
	}
}

func TestP103OfNoDays(t *testing.T) {
	for _, d := range noDays() {
		for _, n := range edgeInts() {
			checkDateLater(t, d, n, civil.Date{}, false)
		}
		for _, e := range append(append(edgeDays(), noDays()...), d) {
			checkDays(t, d, e, 0, 0, false)
			checkDays(t, e, d, 0, 0, false)
		}
	}
}

// checkDays holds how far b is behind a, in seconds and in months.
func checkDays(t *testing.T, a, b civil.Date, seconds, months int, may bool) {
	t.Helper()
	if n, ok := span.DatesBetween(a, b); n != seconds || ok != may {
		t.Errorf("DatesBetween(%v, %v) = %d, %v, not %d, %v", a, b, n, ok, seconds, may)
	}
	if n, ok := span.MonthsBetween(a, b); n != months || ok != may {
		t.Errorf("MonthsBetween(%v, %v) = %d, %v, not %d, %v", a, b, n, ok, months, may)
	}
}

func TestP103Between(t *testing.T) {
	for _, x := range []struct {
		a, b         civil.Date
		days, months int
	}{
		{on(2024, 2, 29), on(2024, 2, 29), 0, 0},
		{on(2024, 2, 29), on(2024, 3, 1), 1, 0},
		{on(2024, 2, 28), on(2024, 3, 1), 2, 0},
		{on(2023, 2, 28), on(2023, 3, 1), 1, 0},
		{on(1900, 2, 28), on(1900, 3, 1), 1, 0},
		{on(2023, 12, 31), on(2024, 1, 1), 1, 0},
		{on(2023, 12, 1), on(2024, 1, 1), 31, 1},
		{on(2024, 1, 1), on(2025, 1, 1), 366, 12},
		{on(2023, 1, 1), on(2024, 1, 1), 365, 12},
		{on(2024, 1, 2), on(2025, 1, 1), 365, 11},
		{on(1969, 12, 31), on(1970, 1, 1), 1, 0},
		{on(-1, 12, 31), on(0, 1, 1), 1, 0},
		{on(0, 2, 29), on(0, 3, 29), 29, 1},
		// Between days of unequal months' lengths.
		{on(2024, 1, 31), on(2024, 2, 29), 29, 0},
		{on(2024, 1, 30), on(2024, 2, 29), 30, 0},
		{on(2024, 1, 29), on(2024, 2, 29), 31, 1},
		{on(2024, 1, 31), on(2024, 3, 1), 30, 1},
		{on(2024, 1, 31), on(2024, 3, 30), 59, 1},
		{on(2024, 1, 31), on(2024, 3, 31), 60, 2},
		{on(2024, 2, 29), on(2024, 3, 28), 28, 0},
		{on(2024, 2, 29), on(2024, 3, 29), 29, 1},
		{on(2024, 2, 29), on(2024, 3, 31), 31, 1},
		{on(2024, 3, 31), on(2024, 4, 30), 30, 0},
		{on(2024, 3, 31), on(2024, 5, 1), 31, 1},
		{on(2024, 2, 29), on(2025, 2, 28), 365, 11},
		{on(2024, 2, 29), on(2025, 3, 1), 366, 12},
		{on(2023, 2, 28), on(2024, 2, 28), 365, 12},
		{on(2023, 2, 28), on(2024, 2, 29), 366, 12},
		{on(2024, 2, 29), on(2028, 2, 29), 1461, 48},
		// At the first and the last day.
		{first(), on(-999999999, 2, 1), 31, 1},
		{on(999999999, 11, 30), last(), 31, 1},
		{on(999999999, 12, 1), last(), 30, 0},
		{first(), on(1970, 1, 1), 365243219162, 1000001969 * 12},
		{on(1970, 1, 1), last(), 365241780471, 999998029*12 + 11},
		{first(), last(), 730484999633, 1999999998*12 + 11},
	} {
		checkDays(t, x.a, x.b, x.days*86400, x.months, true)
		// With the later one ahead it is 0 less that.
		checkDays(t, x.b, x.a, -x.days*86400, -x.months, true)
	}
}

func checkDaysByTheWords(t *testing.T, a, b civil.Date) {
	t.Helper()
	seconds, may := datesBetweenModel(a, b)
	months, _ := monthsBetweenModel(a, b)
	checkDays(t, a, b, seconds, months, may)
}

func TestP103ByTheWords(t *testing.T) {
	for _, a := range append(edgeDays(), noDays()...) {
		for _, b := range append(edgeDays(), noDays()...) {
			checkDaysByTheWords(t, a, b)
		}
		for _, n := range edgeInts() {
			want, may := dateLaterModel(a, n)
			checkDateLater(t, a, n, want, may)
		}
	}
	r := rand.New(rand.NewSource(106))
	for range 50000 {
		a, b := someDay(r), someDay(r)
		checkDaysByTheWords(t, a, b)
		n := someSpan(r)
		want, may := dateLaterModel(a, n)
		checkDateLater(t, a, n, want, may)
		n = r.Intn(4000000) - 2000000
		want, may = dateLaterModel(a, n)
		checkDateLater(t, a, n, want, may)
		if may {
			checkDaysByTheWords(t, a, want)
		}
	}
}

// Each day of some years against those about it.
func TestP103DayByDay(t *testing.T) {
	for day := on(2023, 1, 1); day.Year < 2026; {
		for n := -70; n <= 70; n++ {
			want, may := dateLaterModel(day, n*86400)
			checkDateLater(t, day, n*86400, want, may)
			checkDateLater(t, day, n*86400+86399, want, may)
			checkDaysByTheWords(t, day, want)
		}
		day, _ = dateLaterModel(day, 86400)
	}
}

// Whatever the numbers are, each call ends and goes by the words.
func TestW1AnyDays(t *testing.T) {
	r := rand.New(rand.NewSource(107))
	some := func() int {
		if r.Intn(3) == 0 {
			return someSpan(r)
		}
		return r.Intn(40) - 4
	}
	for range 50000 {
		a, b, n := on(some(), some(), some()), on(some(), some(), some()), int(r.Uint64())>>r.Intn(64)
		checkDaysByTheWords(t, a, b)
		want, may := dateLaterModel(a, n)
		checkDateLater(t, a, n, want, may)
	}
}
