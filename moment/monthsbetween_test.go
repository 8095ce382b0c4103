package moment_test

import (
	"math/rand"
	"testing"

	"casuist/moment"
)

// pair is two moments, and how many months the second one is behind the first.
type pair struct {
	a, b moment.Moment
	n    int
}

func checkMonthsBetween(t *testing.T, pairs []pair) {
	t.Helper()
	for _, x := range pairs {
		if n, ok := moment.MonthsBetween(x.a, x.b); n != x.n || !ok {
			t.Errorf("MonthsBetween(%v, %v) = %d, %v, not %d", x.a, x.b, n, ok, x.n)
		}
		if n, ok := moment.MonthsBetween(x.b, x.a); n != -x.n || !ok {
			t.Errorf("MonthsBetween(%v, %v) = %d, %v, not %d", x.b, x.a, n, ok, -x.n)
		}
	}
}

func TestP84MonthsBetween(t *testing.T) {
	checkMonthsBetween(t, []pair{
		{on(2024, 1, 15, 5), on(2024, 1, 15, 5), 0},
		{on(2024, 1, 15, 5), on(2024, 1, 15, 6), 0},
		{on(2024, 1, 15, 5), on(2024, 1, 31, 0), 0},
		{on(2024, 1, 31, 0), on(2024, 2, 29, 0), 0},
		{on(2024, 1, 29, 0), on(2024, 3, 1, 0), 1},
		{on(2020, 5, 5, 0), on(2024, 5, 5, 0), 48},
		// The days and the times agree, or one second lies between.
		{on(2024, 1, 15, 5), on(2024, 2, 15, 5), 1},
		{on(2024, 1, 15, 5), on(2024, 2, 15, 4), 0},
		{on(2024, 1, 15, 5), on(2024, 2, 15, 6), 1},
		{on(2024, 1, 15, 0), on(2024, 2, 14, 86399), 0},
		{on(2024, 1, 15, 86399), on(2024, 2, 16, 0), 1},
		{on(2024, 1, 15, 5), on(2024, 3, 15, 5), 2},
		{on(2024, 1, 15, 5), on(2024, 3, 15, 4), 1},
		{on(2023, 12, 31, 86399), on(2024, 1, 1, 0), 0},
		{on(2023, 12, 15, 5), on(2024, 1, 15, 5), 1},
		{on(2023, 12, 15, 5), on(2024, 1, 15, 4), 0},
		{on(2023, 6, 15, 5), on(2024, 6, 15, 5), 12},
		{on(2023, 6, 15, 5), on(2024, 6, 14, 86399), 11},
		// A greater time of an earlier day does not make it up, nor a greater day of an earlier month.
		{on(2024, 1, 15, 0), on(2024, 2, 14, 50000), 0},
		{on(2024, 1, 1, 0), on(2024, 1, 31, 86399), 0},
		{on(2023, 2, 28, 0), on(2024, 1, 27, 86399), 10},
		// The day stands as it is: the last one of a month is not taken for a later one.
		{on(2024, 1, 31, 0), on(2024, 2, 29, 86399), 0},
		{on(2024, 1, 31, 0), on(2024, 3, 1, 0), 1},
		{on(2024, 1, 31, 0), on(2024, 3, 30, 86399), 1},
		{on(2024, 1, 31, 0), on(2024, 3, 31, 0), 2},
		{on(2024, 2, 29, 0), on(2024, 3, 29, 0), 1},
		{on(2024, 2, 29, 0), on(2024, 3, 31, 0), 1},
		{on(2024, 2, 29, 0), on(2025, 2, 28, 86399), 11},
		{on(2024, 2, 29, 0), on(2025, 3, 1, 0), 12},
		{on(2023, 2, 28, 0), on(2024, 2, 28, 0), 12},
		{on(2024, 2, 29, 0), on(2028, 2, 29, 0), 48},
		// Across the year 0, and from end to end.
		{on(-1, 12, 1, 0), on(1, 1, 1, 0), 13},
		{on(-1, 12, 2, 0), on(1, 1, 1, 0), 12},
		{on(-2, 6, 1, 0), on(2, 6, 1, 0), 48},
		{first(), last(), mostMonths},
		{on(-999999999, 1, 31, 86399), on(999999999, 12, 31, 86398), mostMonths - 1},
	})
}

// The second one's month and day are those at the first one's offset.
func TestP84AtOffsets(t *testing.T) {
	checkMonthsBetween(t, []pair{
		{at(2024, 1, 15, 5, 3600), at(2024, 2, 15, 5, 3600), 1},
		{at(2024, 1, 15, 5, 3600), at(2024, 2, 15, 4, 3600), 0},
		{at(2024, 1, 15, 5, -64800), at(2024, 2, 15, 5, -64800), 1},
		// The same instant, told elsewhere.
		{at(2024, 3, 1, hms(0, 30, 0), 3600), at(2024, 2, 29, hms(23, 30, 0), 0), 0},
		// At 3600 it is 2024-03-01T00:30, and one second less.
		{at(2024, 2, 1, hms(0, 30, 0), 3600), at(2024, 2, 29, hms(23, 30, 0), 0), 1},
		{at(2024, 2, 1, hms(0, 30, 0), 3600), at(2024, 2, 29, hms(23, 29, 59), 0), 0},
		// At 0 it is 2024-02-29T23:30: a month's first day is not reached.
		{at(2024, 2, 1, 0, 0), at(2024, 3, 1, hms(0, 30, 0), 3600), 0},
		{at(2024, 2, 1, 0, 0), at(2024, 3, 1, hms(1, 0, 0), 3600), 1},
		{at(2024, 2, 1, 0, 0), at(2024, 3, 1, hms(0, 59, 59), 3600), 0},
		// At -3600 it is 2024-03-31T12:00, which is 15:00 at 7200.
		{at(2024, 1, 31, hms(12, 0, 0), -3600), at(2024, 3, 31, hms(15, 0, 0), 7200), 2},
		{at(2024, 1, 31, hms(12, 0, 0), -3600), at(2024, 3, 31, hms(14, 59, 59), 7200), 1},
		// Another year: at 64800 it is 2024-01-01T00:00.
		{at(2023, 1, 1, 0, 64800), at(2023, 12, 31, hms(6, 0, 0), 0), 12},
		{at(2023, 1, 1, 0, 64800), at(2023, 12, 31, hms(5, 59, 59), 0), 11},
		{at(2023, 12, 31, 0, -64800), at(2024, 1, 1, 0, 0), 0},
		{at(2023, 11, 30, hms(6, 0, 0), -64800), at(2024, 1, 1, 0, 0), 1},
	})
}

// The offset of the one that is ahead is taken, whichever is named first.
func TestP84TheOneAheadTells(t *testing.T) {
	a, b := at(2024, 1, 31, hms(20, 0, 0), 0), at(2024, 3, 1, hms(7, 0, 0), 36000)
	// At 0, b is 2024-02-29T21:00, whose day is ahead of a's; at 36000, a is 2024-02-01T06:00, and b would be a month behind it.
	checkMonthsBetween(t, []pair{{a, b, 0}})
	c, d := at(2024, 2, 1, hms(4, 0, 0), 36000), at(2024, 2, 29, hms(19, 0, 0), 0)
	// At 36000, d is 2024-03-01T05:00; at 0, c is 2024-01-31T18:00, and d's day would be ahead of it.
	checkMonthsBetween(t, []pair{{c, d, 1}})
}

// The second one would be of a year that may not be, at the first one's offset.
func TestP84NoSuchMoment(t *testing.T) {
	for _, x := range []struct{ a, b moment.Moment }{
		{at(999999999, 12, 31, 43200, 64800), at(999999999, 12, 31, hms(6, 0, 0), 0)},
		{at(999999999, 12, 31, 43200, 64800), lastAt(0)},
		{at(2024, 1, 1, 0, 64800), lastAt(64799)},
		{at(2024, 1, 1, 0, 64800), lastAt(-64800)},
		{at(2024, 1, 1, 0, 0), lastAt(-1)},
		{firstAt(0), lastAt(-1)},
		{firstAt(-64799), lastAt(-64800)},
	} {
		checkNoMonths(t, x.a, x.b)
		checkNoMonths(t, x.b, x.a)
		if n, ok := moment.Between(x.a, x.b); n <= 0 || !ok {
			t.Errorf("Between(%v, %v) = %d, %v", x.a, x.b, n, ok)
		}
	}
	// Here there is such a moment still.
	checkMonthsBetween(t, []pair{
		{at(999999999, 12, 31, 43200, 64800), at(999999999, 12, 31, hms(5, 59, 59), 0), 0},
		{firstAt(0), lastAt(0), mostMonths},
		{firstAt(64800), at(999999999, 12, 31, hms(5, 59, 59), 0), mostMonths},
		{firstAt(-64800), lastAt(-64800), mostMonths},
		{firstAt(64800), firstAt(0), 0},
		{firstAt(64800), firstAt(-64800), 0},
		{lastAt(64800), lastAt(64800), 0},
		{firstAt(-1), lastAt(0), mostMonths},
	})
}

func checkNoMonths(t *testing.T, a, b moment.Moment) {
	t.Helper()
	if n, ok := moment.MonthsBetween(a, b); n != 0 || ok {
		t.Errorf("MonthsBetween(%v, %v) = %d, %v", a, b, n, ok)
	}
}

// One alone that may not be, or that alone has an offset, is no answer either.
func TestP84WhereBetweenIsFalse(t *testing.T) {
	for _, a := range noMoments() {
		for _, b := range []moment.Moment{on(2024, 2, 29, 0), at(2024, 2, 29, 0, 3600), first(), lastAt(64800)} {
			checkNoMonths(t, a, b)
			checkNoMonths(t, b, a)
		}
		checkNoMonths(t, a, a)
	}
	checkNoMonths(t, on(2024, 1, 1, 0), at(2024, 3, 1, 0, 0))
	checkNoMonths(t, at(2024, 1, 1, 0, 0), on(2024, 3, 1, 0))
}

func TestP84EachDay(t *testing.T) {
	for i := range 800 {
		for j := range 60 {
			a, _ := ofModel(1672531200+i*86400, like(0))
			b, _ := ofModel(1672531200+(i+j)*86400+j-30, like(3600*(j%5)))
			checkPair(t, a, b)
			checkPair(t, b, a)
		}
	}
}

func TestP84ByTheWords(t *testing.T) {
	r := rand.New(rand.NewSource(84))
	for range 50000 {
		a := someMoment(r)
		// About so many whole months off, and some seconds beside.
		there, ok := monthsModel(a, r.Intn(200)-100)
		if !ok {
			continue
		}
		n, _ := instantModel(there)
		b, _ := ofModel(n+r.Intn(5)-2, someTime(r))
		checkPair(t, a, b)
		checkPair(t, b, a)
	}
}
