package clock_test

import (
	"math"
	"math/rand"
	"testing"

	"casuist/clock"
)

func TestP72Later(t *testing.T) {
	for _, x := range []struct {
		t    clock.Time
		n    int
		want clock.Time
		days int
	}{
		{plain(36000), 0, plain(36000), 0},
		{plain(0), 0, plain(0), 0},
		{plain(86399), 0, plain(86399), 0},
		{plain(36000), 60, plain(36060), 0},
		{plain(36000), -60, plain(35940), 0},
		// Onto midnight, and beside it.
		{plain(86399), 1, plain(0), 1},
		{plain(86399), 2, plain(1), 1},
		{plain(86398), 1, plain(86399), 0},
		{plain(36000), 50399, plain(86399), 0},
		{plain(36000), 50400, plain(0), 1},
		{plain(36000), 50401, plain(1), 1},
		{plain(0), -1, plain(86399), -1},
		{plain(1), -1, plain(0), 0},
		{plain(1), -2, plain(86399), -1},
		{plain(36000), -35999, plain(1), 0},
		{plain(36000), -36000, plain(0), 0},
		{plain(36000), -36001, plain(86399), -1},
		// By whole days, and one second more or less.
		{plain(36000), 86400, plain(36000), 1},
		{plain(36000), -86400, plain(36000), -1},
		{plain(0), 86399, plain(86399), 0},
		{plain(0), 86400, plain(0), 1},
		{plain(0), 86401, plain(1), 1},
		{plain(0), -86399, plain(1), -1},
		{plain(0), -86400, plain(0), -1},
		{plain(0), -86401, plain(86399), -2},
		{plain(86399), 86400, plain(86399), 1},
		{plain(86399), 86401, plain(0), 2},
		{plain(86399), -86399, plain(0), 0},
		{plain(86399), -86400, plain(86399), -1},
		{plain(86399), -172799, plain(0), -1},
		{plain(86399), -172800, plain(86399), -2},
		{plain(36000), 86400 * 1000, plain(36000), 1000},
		{plain(36000), -86400 * 1000, plain(36000), -1000},
		{plain(36000), 86400*1000000000 + 1, plain(36001), 1000000000},
		{plain(36000), -86400*1000000000 - 36001, plain(86399), -1000000001},
	} {
		if got, days := clock.Later(x.t, x.n); got != x.want || days != x.days {
			t.Errorf("Later(%v, %d) = %v, %d, not %v, %d", x.t, x.n, got, days, x.want, x.days)
		}
	}
}

// The offset stays, and midnight is that of the place.
func TestP72LaterAtAnOffset(t *testing.T) {
	for _, x := range []struct {
		t    clock.Time
		n    int
		want clock.Time
		days int
	}{
		{zoned(36000, 3600), 0, zoned(36000, 3600), 0},
		{zoned(36000, 3600), 60, zoned(36060, 3600), 0},
		{zoned(86399, 3600), 1, zoned(0, 3600), 1},
		{zoned(86399, 0), 1, zoned(0, 0), 1},
		{zoned(0, -64800), -1, zoned(86399, -64800), -1},
		{zoned(0, 64800), -1, zoned(86399, 64800), -1},
		{zoned(3600, 64800), 86400, zoned(3600, 64800), 1},
		{zoned(3599, 3600), 1, zoned(3600, 3600), 0},
		{zoned(82799, -3600), 1, zoned(82800, -3600), 0},
	} {
		if got, days := clock.Later(x.t, x.n); got != x.want || days != x.days {
			t.Errorf("Later(%v, %d) = %v, %d, not %v, %d", x.t, x.n, got, days, x.want, x.days)
		}
	}
}

// At the ends of int the seconds and the time's own together would go round.
func TestP72LaterAtTheEndsOfInt(t *testing.T) {
	for _, x := range []struct {
		t    clock.Time
		n    int
		want clock.Time
		days int
	}{
		{plain(0), math.MaxInt, plain(55807), 106751991167300},
		{plain(30592), math.MaxInt, plain(86399), 106751991167300},
		{plain(30593), math.MaxInt, plain(0), 106751991167301},
		{plain(86399), math.MaxInt, plain(55806), 106751991167301},
		{plain(0), math.MinInt, plain(30592), -106751991167301},
		{plain(55808), math.MinInt, plain(0), -106751991167300},
		{plain(55807), math.MinInt, plain(86399), -106751991167301},
		{plain(86399), math.MinInt, plain(30591), -106751991167300},
		{zoned(86399, 3600), math.MaxInt, zoned(55806, 3600), 106751991167301},
		{zoned(0, -3600), math.MinInt, zoned(30592, -3600), -106751991167301},
	} {
		if got, days := clock.Later(x.t, x.n); got != x.want || days != x.days {
			t.Errorf("Later(%v, %d) = %v, %d, not %v, %d", x.t, x.n, got, days, x.want, x.days)
		}
	}
}

func TestP72LaterOfNoTime(t *testing.T) {
	for _, x := range noTimes() {
		for _, n := range []int{0, 1, -1, 86400, -86400, 172800, math.MinInt, math.MaxInt} {
			if got, days := clock.Later(x, n); got != (clock.Time{}) || days != 0 {
				t.Errorf("Later(%v, %d) = %v, %d", x, n, got, days)
			}
		}
	}
}

func TestP72LaterByTheWords(t *testing.T) {
	for n := -3 * 86400; n <= 3*86400; n++ {
		checkLater(t, plain(0), n)
		checkLater(t, zoned(86399, -60), n)
	}
	for _, x := range edgeTimes() {
		for _, n := range edgeInts() {
			for off := -2; off <= 2; off++ {
				checkLater(t, x, n+off)
			}
		}
	}
	r := rand.New(rand.NewSource(72))
	for range 50000 {
		checkLater(t, someTime(r), r.Intn(1000000)-500000)
		checkLater(t, someTime(r), someInt(r))
	}
}

func TestP72Between(t *testing.T) {
	for _, x := range []struct {
		a, b clock.Time
		n    int
	}{
		{plain(36000), plain(36000), 0},
		{plain(36000), plain(36001), 1},
		{plain(36001), plain(36000), -1},
		{plain(0), plain(86399), 86399},
		{plain(86399), plain(0), -86399},
		{zoned(36000, 3600), zoned(32400, 0), 0},
		{zoned(32400, 0), zoned(36000, 3600), 0},
		{zoned(36000, 3600), zoned(36000, 3600), 0},
		{zoned(36000, 3600), zoned(36000, 0), 3600},
		{zoned(36000, 0), zoned(36000, 3600), -3600},
		{zoned(36000, 3600), zoned(36000, -3600), 7200},
		{zoned(hms(9, 30, 0), 19800), zoned(hms(4, 0, 1), 0), 1},
		{zoned(0, 0), zoned(86399, 0), 86399},
		{zoned(43200, 1), zoned(43200, 0), 1},
	} {
		if n, ok := clock.Between(x.a, x.b); n != x.n || !ok {
			t.Errorf("Between(%v, %v) = %d, %v, not %d", x.a, x.b, n, ok, x.n)
		}
		if n, ok := clock.Between(x.b, x.a); n != -x.n || !ok {
			t.Errorf("Between(%v, %v) = %d, %v, not %d", x.b, x.a, n, ok, -x.n)
		}
	}
}

// Where it is another day at Greenwich, the seconds go on over midnight.
func TestP72BetweenAcrossMidnight(t *testing.T) {
	for _, x := range []struct {
		a, b clock.Time
		n    int
	}{
		// At Greenwich: 23:30 of the day before, and 0:00.
		{zoned(hms(0, 30, 0), 3600), zoned(0, 0), 1800},
		// 23:30 of the day before, and of this day.
		{zoned(hms(0, 30, 0), 3600), zoned(hms(23, 30, 0), 0), 86400},
		// 0:30 of the next day, and of this day.
		{zoned(hms(23, 30, 0), -3600), zoned(hms(0, 30, 0), 0), -86400},
		// 0:30 of the next day, and 23:59:59 of this day.
		{zoned(hms(23, 30, 0), -3600), zoned(86399, 0), -1801},
		// 6:00 of the day before, and 17:59:59 of the next one.
		{zoned(0, 64800), zoned(86399, -64800), 215999},
		// 5:59:59 of this day, and 18:00 of this day.
		{zoned(86399, 64800), zoned(0, -64800), 43201},
		// Both of the day before.
		{zoned(0, 64800), zoned(60, 64800), 60},
	} {
		if n, ok := clock.Between(x.a, x.b); n != x.n || !ok {
			t.Errorf("Between(%v, %v) = %d, %v, not %d", x.a, x.b, n, ok, x.n)
		}
		checkPair(t, x.a, x.b)
		checkPair(t, x.b, x.a)
	}
}

func TestP72Cmp(t *testing.T) {
	for _, x := range []struct {
		a, b clock.Time
		c    int
	}{
		{plain(36000), plain(36000), 0},
		{plain(36000), plain(36001), -1},
		{plain(0), plain(86399), -1},
		{zoned(36000, 3600), zoned(32400, 0), 0},
		{zoned(36000, 3600), zoned(36000, 0), -1},
		{zoned(35999, 3600), zoned(32400, 0), -1},
		{zoned(36000, 3600), zoned(32401, 0), -1},
		{zoned(36000, 3600), zoned(35999, 0), -1},
		{zoned(36000, 0), zoned(36000, 0), 0},
		{zoned(36000, 1), zoned(36000, 0), -1},
		// By Greenwich on another day: the day before is ahead, though its hour there is greater.
		{zoned(hms(0, 30, 0), 3600), zoned(0, 0), -1},
		{zoned(hms(0, 30, 0), 3600), zoned(hms(23, 30, 0), 0), -1},
		{zoned(hms(0, 30, 0), 0), zoned(hms(23, 30, 0), -3600), -1},
		{zoned(86399, 0), zoned(hms(23, 30, 0), -3600), -1},
		{zoned(0, 64800), zoned(86399, -64800), -1},
		{zoned(86399, 64800), zoned(0, -64800), -1},
	} {
		if c, ok := clock.Cmp(x.a, x.b); c != x.c || !ok {
			t.Errorf("Cmp(%v, %v) = %d, %v, not %d", x.a, x.b, c, ok, x.c)
		}
		if c, ok := clock.Cmp(x.b, x.a); c != -x.c || !ok {
			t.Errorf("Cmp(%v, %v) = %d, %v, not %d", x.b, x.a, c, ok, -x.c)
		}
	}
}

// One with an offset and one without can't be held against each other, not even at Greenwich.
func TestP72OneAloneHasAnOffset(t *testing.T) {
	for _, sec := range []int{0, 1, 36000, 86399} {
		for _, offset := range []int{0, 1, -1, 3600, 64800, -64800} {
			for _, other := range []int{0, 36000, 36000 - offset, 86399} {
				checkApart(t, plain(other), zoned(sec, offset))
				checkApart(t, zoned(sec, offset), plain(other))
			}
		}
	}
}

func TestP72OfNoTimes(t *testing.T) {
	for _, a := range noTimes() {
		for _, b := range append(noTimes(), plain(0), plain(86399), zoned(0, 0), zoned(86399, 3600)) {
			checkApart(t, a, b)
			checkApart(t, b, a)
		}
	}
}

// checkApart holds that two are not held against each other.
func checkApart(t *testing.T, a, b clock.Time) {
	t.Helper()
	if n, ok := clock.Between(a, b); n != 0 || ok {
		t.Errorf("Between(%v, %v) = %d, %v", a, b, n, ok)
	}
	if c, ok := clock.Cmp(a, b); c != 0 || ok {
		t.Errorf("Cmp(%v, %v) = %d, %v", a, b, c, ok)
	}
}

func TestP72PairsByTheWords(t *testing.T) {
	all := edgeTimes()
	for _, a := range all {
		for _, b := range all {
			checkPair(t, a, b)
		}
	}
	r := rand.New(rand.NewSource(73))
	for range 50000 {
		a := someTime(r)
		checkPair(t, a, someTime(r))
		// The same seconds at Greenwich, or one beside it.
		b := a
		if a.Zoned {
			b.Offset += r.Intn(601) - 300
			b.Sec += b.Offset - a.Offset + r.Intn(3) - 1
		}
		checkPair(t, a, b)
	}
}
