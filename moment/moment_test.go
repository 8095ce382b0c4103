package moment_test

import (
	"math"
	"math/rand"
	"testing"

	"casuist/civil"
	"casuist/clock"
	"casuist/moment"
)

func TestP81May(t *testing.T) {
	for _, m := range edgeMoments() {
		if !m.May() {
			t.Errorf("%v: there is such a moment", m)
		}
	}
	for _, m := range append(noMoments(), moment.Moment{}) {
		if m.May() {
			t.Errorf("%v: there is no such moment", m)
		}
	}
	// One part alone is wrong.
	for _, m := range []moment.Moment{
		on(2023, 2, 29, 0), on(2024, 2, 29, 86400), on(2024, 2, 29, -1), on(2024, 13, 1, 0), on(1000000000, 1, 1, 0), at(2024, 2, 29, 0, 64801), at(2024, 2, 29, 0, -64801), at(2024, 2, 30, 0, 0),
		{Date: civil.Date{Year: 2024, Month: 2, Day: 29}, Time: clock.Time{Offset: 60}},
	} {
		if m.May() {
			t.Errorf("%v: there is no such moment", m)
		}
	}
}

func TestP81Instant(t *testing.T) {
	for _, x := range []struct {
		m moment.Moment
		n int
	}{
		{on(1970, 1, 1, 0), 0},
		{on(1970, 1, 1, 1), 1},
		{on(1970, 1, 2, 0), 86400},
		{on(1969, 12, 31, 86399), -1},
		{on(1969, 12, 31, 0), -86400},
		{on(2000, 3, 1, 5), 11017*86400 + 5},
		{on(2024, 2, 29, hms(12, 34, 56)), 1709210096},
		{at(1970, 1, 1, 0, 0), 0},
		{at(1970, 1, 2, 0, 3600), 82800},
		{at(1970, 1, 2, 0, -3600), 90000},
		{at(1970, 1, 1, 0, 1), -1},
		{at(1970, 1, 1, 0, -1), 1},
		{at(1970, 1, 1, 0, 64800), -64800},
		{at(1970, 1, 1, 0, -64800), 64800},
		{at(2024, 2, 29, hms(12, 34, 56), 19800), 1709190296},
		{first(), -31557014135596800},
		{last(), 31556889832780799},
		{firstAt(64800), -31557014135661600},
		{lastAt(-64800), 31556889832845599},
		{on(0, 1, 1, 0), -62167219200},
		{on(-1, 12, 31, 86399), -62167219201},
	} {
		if i, ok := moment.Instant(x.m); i != x.n || !ok {
			t.Errorf("Instant(%v) = %d, %v, not %d", x.m, i, ok, x.n)
		}
		checkMoment(t, x.m)
	}
}

// By Greenwich it is another day, another month or another year.
func TestP81InstantOfAnotherDay(t *testing.T) {
	for _, x := range []struct{ m, same moment.Moment }{
		{at(2024, 1, 16, hms(0, 30, 0), 3600), at(2024, 1, 15, hms(23, 30, 0), 0)},
		{at(2024, 1, 15, hms(23, 30, 0), -3600), at(2024, 1, 16, hms(0, 30, 0), 0)},
		{at(2024, 3, 1, hms(0, 30, 0), 3600), at(2024, 2, 29, hms(23, 30, 0), 0)},
		{at(2023, 2, 28, hms(23, 30, 0), -3600), at(2023, 3, 1, hms(0, 30, 0), 0)},
		{at(2024, 1, 1, 0, 64800), at(2023, 12, 31, hms(6, 0, 0), 0)},
		{at(2023, 12, 31, 86399, -64800), at(2024, 1, 1, hms(17, 59, 59), 0)},
		{at(0, 1, 1, 0, 1), at(-1, 12, 31, 86399, 0)},
		{at(1, 1, 1, 3600, 64800), at(0, 12, 31, 3600, -21600)},
	} {
		i, ok := moment.Instant(x.m)
		if j, same := moment.Instant(x.same); i != j || !ok || !same {
			t.Errorf("Instant(%v) = %d, %v, and of %v %d, %v", x.m, i, ok, x.same, j, same)
		}
		if got, ok := moment.Of(i, x.same.Time); got != x.same || !ok {
			t.Errorf("Of(%d, %v) = %v, %v", i, x.same.Time, got, ok)
		}
		if got, ok := moment.Of(i, x.m.Time); got != x.m || !ok {
			t.Errorf("Of(%d, %v) = %v, %v", i, x.m.Time, got, ok)
		}
	}
}

func TestP81InstantOfNoMoment(t *testing.T) {
	for _, m := range noMoments() {
		if i, ok := moment.Instant(m); i != 0 || ok {
			t.Errorf("Instant(%v) = %d, %v", m, i, ok)
		}
	}
}

func TestP81Of(t *testing.T) {
	for _, x := range []struct {
		instant int
		like    clock.Time
		want    moment.Moment
	}{
		{0, clock.Time{}, on(1970, 1, 1, 0)},
		{-1, clock.Time{}, on(1969, 12, 31, 86399)},
		{86399, clock.Time{}, on(1970, 1, 1, 86399)},
		{86400, clock.Time{}, on(1970, 1, 2, 0)},
		{-86400, clock.Time{}, on(1969, 12, 31, 0)},
		{-86401, clock.Time{}, on(1969, 12, 30, 86399)},
		{1709210096, clock.Time{}, on(2024, 2, 29, hms(12, 34, 56))},
		{0, like(0), at(1970, 1, 1, 0, 0)},
		{82800, like(3600), at(1970, 1, 2, 0, 3600)},
		{82799, like(3600), at(1970, 1, 1, 86399, 3600)},
		{0, like(-1), at(1969, 12, 31, 86399, -1)},
		{0, like(64800), at(1970, 1, 1, hms(18, 0, 0), 64800)},
		{0, like(-64800), at(1969, 12, 31, hms(6, 0, 0), -64800)},
		{-62167219201, like(1), at(0, 1, 1, 0, 1)},
		// The hour that it is there plays no part: the offset alone does.
		{0, clock.Time{Sec: 86399}, on(1970, 1, 1, 0)},
		{82800, clock.Time{Sec: 1, Zoned: true, Offset: 3600}, at(1970, 1, 2, 0, 3600)},
		{82799, clock.Time{Sec: 86399, Zoned: true, Offset: 3600}, at(1970, 1, 1, 86399, 3600)},
	} {
		if got, ok := moment.Of(x.instant, x.like); got != x.want || !ok {
			t.Errorf("Of(%d, %v) = %v, %v, not %v", x.instant, x.like, got, ok, x.want)
		}
	}
}

// The first day that may be and the last one, and a second beyond each, at offsets too.
func TestP81OfAtTheYearsEnds(t *testing.T) {
	for _, x := range []struct {
		instant int
		like    clock.Time
		want    moment.Moment
	}{
		{-31557014135596800, clock.Time{}, first()},
		{31556889832780799, clock.Time{}, last()},
		{-31557014135596800, like(0), firstAt(0)},
		{31556889832780799, like(0), lastAt(0)},
		{firstInstant - 64800, like(64800), firstAt(64800)},
		{firstInstant + 64800, like(-64800), firstAt(-64800)},
		{lastInstant - 64800, like(64800), lastAt(64800)},
		{lastInstant + 64800, like(-64800), lastAt(-64800)},
		{firstInstant - 1, like(1), firstAt(1)},
		{lastInstant + 1, like(-1), lastAt(-1)},
	} {
		if got, ok := moment.Of(x.instant, x.like); got != x.want || !ok {
			t.Errorf("Of(%d, %v) = %v, %v, not %v", x.instant, x.like, got, ok, x.want)
		}
	}
	for _, x := range []struct {
		instant int
		like    clock.Time
	}{
		{-31557014135596801, clock.Time{}}, {31556889832780800, clock.Time{}}, {-31557014135596801, like(0)}, {31556889832780800, like(0)},
		{firstInstant - 64801, like(64800)}, {firstInstant + 64799, like(-64800)}, {lastInstant - 64799, like(64800)}, {lastInstant + 64801, like(-64800)},
		{firstInstant, like(-1)}, {lastInstant, like(1)},
	} {
		checkNotOf(t, x.instant, x.like)
	}
}

func TestP81OfFarInstants(t *testing.T) {
	for _, instant := range []int{-furthest, furthest, -furthest - 1, furthest + 1, -furthest + 1, furthest - 1, -1 << 62, 1 << 62, math.MinInt, math.MaxInt, math.MinInt + 64799, math.MinInt + 64800, math.MaxInt - 64799, math.MaxInt - 64800} {
		for _, x := range []clock.Time{{}, {Sec: 86399}, like(0), like(1), like(-1), like(3600), like(64800), like(-64800)} {
			checkNotOf(t, instant, x)
		}
	}
}

func TestP81OfLikeNone(t *testing.T) {
	for _, x := range noTimes() {
		for _, instant := range []int{0, 1, -1, 82800, 1709210096, firstInstant, lastInstant, furthest, math.MinInt, math.MaxInt} {
			checkNotOf(t, instant, x)
		}
	}
}

// checkNotOf holds that there is no such moment.
func checkNotOf(t *testing.T, instant int, like clock.Time) {
	t.Helper()
	if got, ok := moment.Of(instant, like); got != (moment.Moment{}) || ok {
		t.Errorf("Of(%d, %v) = %v, %v", instant, like, got, ok)
	}
}

func TestP81ByTheWords(t *testing.T) {
	for _, m := range append(edgeMoments(), noMoments()...) {
		checkMoment(t, m)
	}
	for _, instant := range edgeInts() {
		for off := -2; off <= 2; off++ {
			for _, m := range edgeMoments() {
				checkOf(t, instant+off, m.Time)
			}
			for _, x := range noTimes() {
				checkOf(t, instant+off, x)
			}
		}
	}
	r := rand.New(rand.NewSource(81))
	for range 50000 {
		checkMoment(t, someMoment(r))
		checkOf(t, r.Intn(lastInstant-firstInstant)+firstInstant, someTime(r))
		checkOf(t, someInt(r), someTime(r))
	}
}

func TestP81EachDayOfSomeYears(t *testing.T) {
	for instant := -800 * 86400; instant <= 800*86400; instant += 21599 {
		for _, x := range []clock.Time{{}, like(0), like(64800), like(-64800), like(-19801)} {
			checkOf(t, instant, x)
			m, _ := ofModel(instant, x)
			checkMoment(t, m)
		}
	}
}
