package moment_test

import (
	"math"
	"math/rand"
	"testing"

	"casuist/api"
	"casuist/moment"
)

// mostMonths is how many months lie between the first month there is and the last one.
const mostMonths = 2*999999999*12 + 11

// step is a moment, so many seconds or months, and the moment then.
type step struct {
	m    moment.Moment
	n    int
	want moment.Moment
}

func checkSteps(t *testing.T, name string, call func(moment.Moment, int) (moment.Moment, bool), steps []step) {
	t.Helper()
	for _, x := range steps {
		if got, ok := call(x.m, x.n); got != x.want || !ok {
			t.Errorf("%s(%v, %d) = %v, %v, not %v", name, x.m, x.n, got, ok, x.want)
		}
	}
}

func checkNoStep(t *testing.T, name string, call func(moment.Moment, int) (moment.Moment, bool), m moment.Moment, n int) {
	t.Helper()
	if got, ok := call(m, n); got != (moment.Moment{}) || ok {
		t.Errorf("%s(%v, %d) = %v, %v", name, m, n, got, ok)
	}
}

func TestP82Later(t *testing.T) {
	checkSteps(t, "Later", moment.Later, []step{
		{on(2024, 2, 28, 86399), 1, on(2024, 2, 29, 0)},
		{on(2024, 2, 29, 86399), 1, on(2024, 3, 1, 0)},
		{on(2023, 2, 28, 86399), 1, on(2023, 3, 1, 0)},
		{on(2024, 3, 1, 0), -1, on(2024, 2, 29, 86399)},
		{on(2024, 12, 31, 86399), 1, on(2025, 1, 1, 0)},
		{on(2025, 1, 1, 0), -1, on(2024, 12, 31, 86399)},
		{on(2024, 1, 15, 5), 0, on(2024, 1, 15, 5)},
		{on(2024, 1, 15, 5), 1, on(2024, 1, 15, 6)},
		{on(2024, 1, 15, 5), -5, on(2024, 1, 15, 0)},
		{on(2024, 1, 15, 5), -6, on(2024, 1, 14, 86399)},
		{on(2024, 1, 15, 5), 86400, on(2024, 1, 16, 5)},
		{on(2024, 1, 15, 5), -86400, on(2024, 1, 14, 5)},
		{on(2024, 1, 15, 5), 366 * 86400, on(2025, 1, 15, 5)},
		{on(2024, 1, 15, 5), -365 * 86400, on(2023, 1, 15, 5)},
		{on(0, 1, 1, 0), -1, on(-1, 12, 31, 86399)},
		{on(-1, 12, 31, 86399), 1, on(0, 1, 1, 0)},
		{on(1970, 1, 1, 0), -1, on(1969, 12, 31, 86399)},
		{on(2024, 1, 1, 0), 1709210096 - 1704067200, on(2024, 2, 29, hms(12, 34, 56))},
	})
}

// The offset stays, and midnight is that of the place.
func TestP82LaterAtAnOffset(t *testing.T) {
	checkSteps(t, "Later", moment.Later, []step{
		{at(2024, 1, 15, 5, 3600), 0, at(2024, 1, 15, 5, 3600)},
		{at(2024, 2, 28, 86399, 3600), 1, at(2024, 2, 29, 0, 3600)},
		{at(2024, 1, 16, hms(0, 59, 59), 3600), 1, at(2024, 1, 16, hms(1, 0, 0), 3600)},
		{at(2024, 1, 1, 0, 64800), -1, at(2023, 12, 31, 86399, 64800)},
		{at(2024, 1, 1, 0, -64800), -1, at(2023, 12, 31, 86399, -64800)},
		{at(2024, 12, 31, 86399, -64800), 1, at(2025, 1, 1, 0, -64800)},
		{at(2024, 12, 31, 86399, 0), 1, at(2025, 1, 1, 0, 0)},
		{at(1970, 1, 1, 0, -19801), 86400, at(1970, 1, 2, 0, -19801)},
	})
}

func TestP82LaterAtTheYearsEnds(t *testing.T) {
	checkSteps(t, "Later", moment.Later, []step{
		{first(), 0, first()},
		{last(), 0, last()},
		{first(), 1, on(-999999999, 1, 1, 1)},
		{last(), -1, on(999999999, 12, 31, 86398)},
		{on(999999999, 12, 31, 86398), 1, last()},
		{on(-999999999, 1, 1, 1), -1, first()},
		{lastAt(-64800), 0, lastAt(-64800)},
		{firstAt(64800), 0, firstAt(64800)},
		{at(999999999, 12, 30, 86399, -64800), 86400, lastAt(-64800)},
		{at(-999999999, 1, 2, 0, 64800), -86400, firstAt(64800)},
	})
	for _, offset := range []int{-64800, -1, 0, 1, 64800} {
		checkNoStep(t, "Later", moment.Later, lastAt(offset), 1)
		checkNoStep(t, "Later", moment.Later, firstAt(offset), -1)
		checkNoStep(t, "Later", moment.Later, lastAt(offset), api.MaxSpan)
		checkNoStep(t, "Later", moment.Later, firstAt(offset), -api.MaxSpan)
	}
	checkNoStep(t, "Later", moment.Later, last(), 1)
	checkNoStep(t, "Later", moment.Later, first(), -1)
	checkNoStep(t, "Later", moment.Later, last(), 86400)
	checkNoStep(t, "Later", moment.Later, on(999999999, 12, 31, 0), 86400)
	checkNoStep(t, "Later", moment.Later, on(-999999999, 1, 1, 86399), -86400)
}

func TestP82LaterByTheMost(t *testing.T) {
	for _, m := range []moment.Moment{on(1970, 1, 1, 0), on(2024, 2, 29, 86399), at(2024, 2, 29, 0, 3600), at(0, 1, 1, 0, -64800)} {
		for _, n := range []int{api.MaxSpan, -api.MaxSpan, api.MaxSpan - 1, -api.MaxSpan + 1} {
			got, ok := moment.Later(m, n)
			if back, same := moment.Later(got, -n); back != m || !ok || !same {
				t.Errorf("Later(%v, %d) = %v, %v, and back %v, %v", m, n, got, ok, back, same)
			}
			checkLater(t, m, n)
		}
		for _, n := range []int{api.MaxSpan + 1, -api.MaxSpan - 1, 1 << 54, -1 << 54, math.MaxInt, math.MinInt} {
			checkNoStep(t, "Later", moment.Later, m, n)
		}
	}
	// There would be such a day, but the seconds are too many.
	checkNoStep(t, "Later", moment.Later, first(), api.MaxSpan+1)
	checkNoStep(t, "Later", moment.Later, last(), -api.MaxSpan-1)
	checkNoStep(t, "Later", moment.Later, first(), lastInstant-firstInstant)
	// Nor do they come round to a day that there is.
	checkNoStep(t, "Later", moment.Later, first(), math.MinInt)
	checkNoStep(t, "Later", moment.Later, last(), math.MaxInt)
}

func TestP82OfNoMoment(t *testing.T) {
	for _, m := range append(noMoments(), moment.Moment{}) {
		for _, n := range []int{0, 1, -1, 12, -12, 86400, api.MaxSpan, -api.MaxSpan, math.MinInt, math.MaxInt} {
			checkNoStep(t, "Later", moment.Later, m, n)
			checkNoStep(t, "Months", moment.Months, m, n)
		}
	}
}

func TestP82Months(t *testing.T) {
	checkSteps(t, "Months", moment.Months, []step{
		{on(2024, 1, 15, 7), 0, on(2024, 1, 15, 7)},
		{on(2024, 1, 15, 7), 1, on(2024, 2, 15, 7)},
		{on(2024, 1, 15, 7), -1, on(2023, 12, 15, 7)},
		{on(2024, 12, 15, 86399), 1, on(2025, 1, 15, 86399)},
		{on(2024, 1, 15, 7), 1200, on(2124, 1, 15, 7)},
		{on(0, 1, 1, 0), -1, on(-1, 12, 1, 0)},
		{on(-1, 12, 1, 0), 1, on(0, 1, 1, 0)},
		{at(2024, 1, 15, 7, 3600), 1, at(2024, 2, 15, 7, 3600)},
		{at(2024, 1, 15, 0, -64800), -12, at(2023, 1, 15, 0, -64800)},
		{at(2024, 1, 15, 0, 0), 1, at(2024, 2, 15, 0, 0)},
	})
}

// Onto a month that has not as many days, it is the last one: with the same time.
func TestP82MonthsOntoShorterOnes(t *testing.T) {
	checkSteps(t, "Months", moment.Months, []step{
		{on(2024, 1, 31, 7), 1, on(2024, 2, 29, 7)},
		{on(2023, 1, 31, 86399), 1, on(2023, 2, 28, 86399)},
		{on(2024, 1, 29, 0), 1, on(2024, 2, 29, 0)},
		{on(2023, 1, 29, 0), 1, on(2023, 2, 28, 0)},
		{on(2024, 3, 31, 1), -1, on(2024, 2, 29, 1)},
		{on(2023, 3, 30, 1), -1, on(2023, 2, 28, 1)},
		{on(2024, 2, 29, 86399), 12, on(2025, 2, 28, 86399)},
		{on(2024, 2, 29, 1), -12, on(2023, 2, 28, 1)},
		{on(2024, 2, 29, 1), 48, on(2028, 2, 29, 1)},
		{on(2000, 2, 29, 1), 1200, on(2100, 2, 28, 1)},
		{on(2024, 1, 31, 1), 3, on(2024, 4, 30, 1)},
		{on(2024, 12, 31, 1), -1, on(2024, 11, 30, 1)},
		{on(2024, 1, 31, 1), 2, on(2024, 3, 31, 1)},
		{at(2024, 1, 31, 86399, -64800), 1, at(2024, 2, 29, 86399, -64800)},
		// The day is that of the place: at Greenwich it is another one.
		{at(2024, 1, 31, 0, 64800), 1, at(2024, 2, 29, 0, 64800)},
		{at(2024, 3, 1, 0, 64800), -1, at(2024, 2, 1, 0, 64800)},
		{at(2023, 12, 31, 86399, -64800), 2, at(2024, 2, 29, 86399, -64800)},
	})
}

func TestP82MonthsAtTheYearsEnds(t *testing.T) {
	checkSteps(t, "Months", moment.Months, []step{
		{first(), 0, first()},
		{last(), 0, last()},
		{lastAt(-64800), 0, lastAt(-64800)},
		{firstAt(64800), 0, firstAt(64800)},
		{on(999999999, 11, 30, 86399), 1, on(999999999, 12, 30, 86399)},
		{first(), mostMonths, on(999999999, 12, 1, 0)},
		{last(), -mostMonths, on(-999999999, 1, 31, 86399)},
		{lastAt(-64800), -mostMonths, at(-999999999, 1, 31, 86399, -64800)},
	})
	for _, x := range []struct {
		m moment.Moment
		n int
	}{
		{last(), 1}, {first(), -1}, {lastAt(64800), 1}, {firstAt(-64800), -1}, {on(999999999, 1, 1, 0), 12}, {on(-999999999, 12, 31, 0), -12}, {first(), mostMonths + 1}, {last(), -mostMonths - 1},
	} {
		checkNoStep(t, "Months", moment.Months, x.m, x.n)
	}
	for _, m := range []moment.Moment{first(), last(), on(1970, 1, 1, 0), at(2024, 2, 29, 0, 3600)} {
		for _, n := range []int{api.MaxSpan, -api.MaxSpan, api.MaxSpan + 1, -api.MaxSpan - 1, 1 << 62, math.MaxInt, math.MaxInt - 11, math.MinInt, math.MinInt + 11} {
			checkNoStep(t, "Months", moment.Months, m, n)
		}
	}
}

func TestP82ByTheWords(t *testing.T) {
	for _, m := range append(edgeMoments(), noMoments()...) {
		for _, n := range edgeInts() {
			for off := -1; off <= 1; off++ {
				checkLater(t, m, n+off)
				checkMonths(t, m, n+off)
			}
		}
	}
	r := rand.New(rand.NewSource(82))
	for range 50000 {
		checkLater(t, someMoment(r), r.Intn(10000000)-5000000)
		checkLater(t, someMoment(r), r.Intn(2*api.MaxSpan+1)-api.MaxSpan)
		checkLater(t, someMoment(r), someInt(r))
		checkMonths(t, someMoment(r), r.Intn(5000)-2500)
		checkMonths(t, someMoment(r), r.Intn(2*mostMonths)-mostMonths)
		checkMonths(t, someMoment(r), someInt(r))
	}
}
