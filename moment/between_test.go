package moment_test

import (
	"math/rand"
	"testing"

	"casuist/civil"
	"casuist/clock"
	"casuist/moment"
)

func TestP83Between(t *testing.T) {
	for _, x := range []struct {
		a, b moment.Moment
		n    int
	}{
		{on(2024, 1, 1, 5), on(2024, 1, 1, 5), 0},
		{on(2024, 1, 1, 4), on(2024, 1, 1, 5), 1},
		{on(2024, 1, 1, 0), on(2024, 1, 2, 0), 86400},
		{on(2024, 1, 1, 86399), on(2024, 1, 2, 0), 1},
		{on(2024, 2, 28, 0), on(2024, 3, 1, 0), 172800},
		{on(2023, 2, 28, 0), on(2023, 3, 1, 0), 86400},
		{on(2023, 12, 31, 86399), on(2024, 1, 1, 1), 2},
		{on(2024, 1, 1, 0), on(2025, 1, 1, 0), 366 * 86400},
		{on(-1, 12, 31, 0), on(0, 1, 1, 0), 86400},
		{first(), last(), 63113903968377599},
		{at(2024, 1, 1, 0, 0), at(2024, 1, 1, 1, 0), 1},
		{at(2024, 1, 1, 36000, 3600), at(2024, 1, 1, 32400, 0), 0},
		{at(2024, 1, 1, 36000, 3600), at(2024, 1, 1, 36000, 0), 3600},
		{at(2024, 1, 1, 36000, 0), at(2024, 1, 1, 36000, -3600), 3600},
		{at(2024, 1, 1, 36000, 3600), at(2024, 1, 1, 36000, 3600), 0},
		{at(2024, 1, 1, 0, 3600), at(2023, 12, 31, 86399, 0), 3599},
		{at(2024, 3, 1, 0, 64800), at(2024, 2, 29, 0, -64800), 43200},
		{firstAt(64800), lastAt(-64800), 63113903968377599 + 129600},
		{firstAt(-64800), lastAt(64800), 63113903968377599 - 129600},
	} {
		checkApart(t, x.a, x.b, x.n)
		checkApart(t, x.b, x.a, -x.n)
	}
}

// checkApart holds that b is n seconds behind a, and that Cmp goes by it.
func checkApart(t *testing.T, a, b moment.Moment, n int) {
	t.Helper()
	if got, ok := moment.Between(a, b); got != n || !ok {
		t.Errorf("Between(%v, %v) = %d, %v, not %d", a, b, got, ok, n)
	}
	want := 0
	if n > 0 {
		want = -1
	}
	if n < 0 {
		want = 1
	}
	if c, ok := moment.Cmp(a, b); c != want || !ok {
		t.Errorf("Cmp(%v, %v) = %d, %v, not %d", a, b, c, ok, want)
	}
}

func TestP83Cmp(t *testing.T) {
	for _, x := range []struct {
		a, b moment.Moment
		c    int
	}{
		{on(2024, 1, 1, 4), on(2024, 1, 1, 5), -1},
		{on(2024, 1, 1, 5), on(2024, 1, 1, 4), 1},
		{on(2024, 1, 1, 5), on(2024, 1, 1, 5), 0},
		{on(2023, 12, 31, 86399), on(2024, 1, 1, 0), -1},
		{on(2024, 2, 1, 0), on(2024, 1, 31, 86399), 1},
		{on(-1, 1, 1, 0), on(1, 1, 1, 0), -1},
		{first(), last(), -1},
		{last(), first(), 1},
		// The later day by the calendar there is ahead at Greenwich.
		{at(2024, 1, 2, 0, 64800), at(2024, 1, 1, 86399, 0), -1},
		{at(2024, 1, 1, 86399, 0), at(2024, 1, 2, 0, 64800), 1},
		{at(2024, 1, 1, 86399, -64800), at(2024, 1, 2, 0, 0), 1},
		{at(2024, 1, 1, 36000, 3600), at(2024, 1, 1, 32400, 0), 0},
		{at(2024, 1, 1, 35999, 3600), at(2024, 1, 1, 32400, 0), -1},
		{at(2024, 1, 1, 36001, 3600), at(2024, 1, 1, 32400, 0), 1},
		{at(2024, 1, 1, 0, 3600), at(2023, 12, 31, hms(23, 0, 0), 0), 0},
		{at(999999999, 12, 31, 86399, 64800), lastAt(-64800), -1},
	} {
		if c, ok := moment.Cmp(x.a, x.b); c != x.c || !ok {
			t.Errorf("Cmp(%v, %v) = %d, %v, not %d", x.a, x.b, c, ok, x.c)
		}
	}
}

// One with an offset and one without can't be held against each other, not even at Greenwich.
func TestP83OneAloneHasAnOffset(t *testing.T) {
	for _, offset := range []int{0, 1, -1, 3600, 64800, -64800} {
		for _, a := range []moment.Moment{on(2024, 1, 1, 0), on(2024, 2, 29, 86399), first(), last()} {
			for _, b := range []moment.Moment{a, on(2024, 1, 1, 0), on(1970, 1, 1, 0)} {
				b.Time.Zoned, b.Time.Offset = true, offset
				checkNeither(t, a, b)
				checkNeither(t, b, a)
			}
		}
	}
}

func TestP83OfNoMoments(t *testing.T) {
	for _, a := range append(noMoments(), moment.Moment{}) {
		for _, b := range append(noMoments(), on(2024, 2, 29, 0), first(), last(), at(2024, 2, 29, 0, 3600), firstAt(64800), lastAt(-64800)) {
			checkNeither(t, a, b)
			checkNeither(t, b, a)
		}
	}
}

// checkNeither holds that two are not held against each other.
func checkNeither(t *testing.T, a, b moment.Moment) {
	t.Helper()
	if n, ok := moment.Between(a, b); n != 0 || ok {
		t.Errorf("Between(%v, %v) = %d, %v", a, b, n, ok)
	}
	if c, ok := moment.Cmp(a, b); c != 0 || ok {
		t.Errorf("Cmp(%v, %v) = %d, %v", a, b, c, ok)
	}
	if n, ok := moment.MonthsBetween(a, b); n != 0 || ok {
		t.Errorf("MonthsBetween(%v, %v) = %d, %v", a, b, n, ok)
	}
}

func TestP83PairsByTheWords(t *testing.T) {
	all := edgeMoments()
	for _, a := range all {
		for _, b := range all {
			checkPair(t, a, b)
		}
	}
	r := rand.New(rand.NewSource(83))
	for range 50000 {
		a, b := someMoment(r), someMoment(r)
		checkPair(t, a, b)
		// One that is at most some seconds off, wherever it is told.
		n, _ := instantModel(a)
		near, _ := ofModel(n+r.Intn(5)-2, someTime(r))
		checkPair(t, a, near)
	}
}

// Whatever the numbers are, each call ends and goes by the words.
func TestP83AnyNumbers(t *testing.T) {
	r := rand.New(rand.NewSource(84))
	some := func() int {
		all := edgeInts()
		if r.Intn(2) == 0 {
			return all[r.Intn(len(all))]
		}
		return r.Intn(40) - 4
	}
	wild := func() moment.Moment {
		return moment.Moment{
			Date: civil.Date{Year: some(), Month: some(), Day: some()},
			Time: clock.Time{Sec: some(), Zoned: r.Intn(2) == 0, Offset: some()},
		}
	}
	for range 50000 {
		a, b := wild(), wild()
		checkMoment(t, a)
		checkOf(t, some(), b.Time)
		checkLater(t, a, some())
		checkMonths(t, a, some())
		checkPair(t, a, b)
	}
}
