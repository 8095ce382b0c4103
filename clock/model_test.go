package clock_test

import (
	"math"
	"math/big"
	"math/rand"
	"testing"
	"time"

	"casuist/api"
	"casuist/clock"
)

// What the chapter's words say, done plainly, with math/big for the sums and package time for the hours, for the tests to hold the package against.

// plain is a time of no place.
func plain(sec int) clock.Time { return clock.Time{Sec: sec} }

// zoned is a time at an offset.
func zoned(sec, offset int) clock.Time {
	return clock.Time{Sec: sec, Zoned: true, Offset: offset}
}

// hms is so many hours, minutes and seconds, in seconds.
func hms(h, m, s int) int { return h*3600 + m*60 + s }

func mayModel(t clock.Time) bool {
	if t.Sec < 0 || t.Sec > 86399 {
		return false
	}
	if t.Zoned {
		return t.Offset >= -64800 && t.Offset <= 64800
	}
	return t.Offset == 0
}

func ofModel(h, m, s int) (clock.Time, bool) {
	if h < 0 || h > 23 || m < 0 || m > 59 || s < 0 || s > 59 {
		return clock.Time{}, false
	}
	return plain(h*3600 + m*60 + s), true
}

func atModel(t clock.Time, offset int) (clock.Time, bool) {
	at := zoned(t.Sec, offset)
	if !mayModel(at) {
		return clock.Time{}, false
	}
	return at, true
}

func laterModel(t clock.Time, n int) (clock.Time, int) {
	if !mayModel(t) {
		return clock.Time{}, 0
	}
	all := new(big.Int).Add(big.NewInt(int64(t.Sec)), big.NewInt(int64(n)))
	days, sec := new(big.Int).DivMod(all, big.NewInt(86400), new(big.Int))
	return clock.Time{Sec: int(sec.Int64()), Zoned: t.Zoned, Offset: t.Offset}, int(days.Int64())
}

// instantModel is a time of a day of no matter which date, by package time, which knows of offsets.
func instantModel(t clock.Time) time.Time {
	return time.Date(2024, 2, 29, 0, 0, t.Sec, 0, time.FixedZone("", t.Offset))
}

func betweenModel(a, b clock.Time) (int, bool) {
	if !mayModel(a) || !mayModel(b) || a.Zoned != b.Zoned {
		return 0, false
	}
	return int(instantModel(b).Unix() - instantModel(a).Unix()), true
}

func cmpModel(a, b clock.Time) (int, bool) {
	n, ok := betweenModel(a, b)
	switch {
	case n < 0:
		return 1, ok
	case n > 0:
		return -1, ok
	}
	return 0, ok
}

// checkParts holds what P7.1 says of a time, or of what is none, against the models.
func checkParts(t *testing.T, x clock.Time) {
	t.Helper()
	if got, want := x.May(), mayModel(x); got != want {
		t.Errorf("%v: May is %v", x, got)
	}
	h, m, s := x.Hour(), x.Minute(), x.Second()
	if !mayModel(x) {
		if h != 0 || m != 0 || s != 0 {
			t.Errorf("%v: there is no such time: %d, %d, %d", x, h, m, s)
		}
		return
	}
	at := instantModel(x)
	if h != at.Hour() || m != at.Minute() || s != at.Second() {
		t.Errorf("%v: the parts are %d, %d, %d, not %d, %d, %d", x, h, m, s, at.Hour(), at.Minute(), at.Second())
	}
}

func checkOf(t *testing.T, h, m, s int) {
	t.Helper()
	got, ok := clock.Of(h, m, s)
	if want, may := ofModel(h, m, s); got != want || ok != may {
		t.Errorf("Of(%d, %d, %d) = %v, %v, not %v, %v", h, m, s, got, ok, want, may)
	}
}

func checkAt(t *testing.T, x clock.Time, offset int) {
	t.Helper()
	got, ok := clock.At(x, offset)
	if want, may := atModel(x, offset); got != want || ok != may {
		t.Errorf("At(%v, %d) = %v, %v, not %v, %v", x, offset, got, ok, want, may)
	}
}

func checkLater(t *testing.T, x clock.Time, n int) {
	t.Helper()
	got, days := clock.Later(x, n)
	if want, by := laterModel(x, n); got != want || days != by {
		t.Errorf("Later(%v, %d) = %v, %d, not %v, %d", x, n, got, days, want, by)
	}
}

// checkPair holds what P7.2 says of two times against the models.
func checkPair(t *testing.T, a, b clock.Time) {
	t.Helper()
	n, ok := clock.Between(a, b)
	if want, may := betweenModel(a, b); n != want || ok != may {
		t.Errorf("Between(%v, %v) = %d, %v, not %d, %v", a, b, n, ok, want, may)
	}
	c, ok := clock.Cmp(a, b)
	if want, may := cmpModel(a, b); c != want || ok != may {
		t.Errorf("Cmp(%v, %v) = %d, %v, not %d, %v", a, b, c, ok, want, may)
	}
}

// edgeInts are numbers at an edge of something, the ends of int among them.
func edgeInts() []int {
	return []int{
		math.MinInt, math.MinInt + 1, math.MinInt + 86400, -1 << 62, -api.MaxSpan - 1, -api.MaxSpan, -1 << 32, -1 << 31, -172801, -172800, -86401, -86400, -86399, -64801, -64800, -64799, -3600, -60, -24, -2, -1,
		0, 1, 2, 22, 23, 24, 25, 58, 59, 60, 61, 3599, 3600, 3601, 43200, 64799, 64800, 64801, 82800, 86398, 86399, 86400, 86401, 172799, 172800, 1 << 31, 1 << 32, api.MaxSpan, api.MaxSpan + 1, 1 << 62, math.MaxInt - 86399, math.MaxInt - 1, math.MaxInt,
	}
}

// edgeTimes are times at an edge, and some that may not be.
func edgeTimes() []clock.Time {
	var out []clock.Time
	for _, sec := range []int{0, 1, 59, 60, 3599, 3600, 43200, 86398, 86399} {
		out = append(out, plain(sec))
		for _, offset := range []int{-64800, -64799, -3600, -1, 0, 1, 3600, 64799, 64800} {
			out = append(out, zoned(sec, offset))
		}
	}
	return append(out, noTimes()...)
}

// noTimes are such as may not be: for their seconds, for their offset, or for both.
func noTimes() []clock.Time {
	var out []clock.Time
	for _, sec := range []int{-1, 86400, -86400, 172800, math.MinInt, math.MaxInt} {
		out = append(out, plain(sec), zoned(sec, 0), zoned(sec, 3600), zoned(sec, 64801), clock.Time{Sec: sec, Offset: 1})
	}
	for _, offset := range []int{-64801, 64801, 86400, math.MinInt, math.MaxInt} {
		out = append(out, zoned(0, offset), zoned(86399, offset))
	}
	for _, offset := range []int{-64801, -64800, -1, 1, 60, 64800, 64801, math.MinInt, math.MaxInt} {
		out = append(out, clock.Time{Offset: offset}, clock.Time{Sec: 86399, Offset: offset})
	}
	return out
}

// someTime is a time: of no place, or of one.
func someTime(r *rand.Rand) clock.Time {
	sec := r.Intn(86400)
	if r.Intn(3) == 0 {
		return plain(sec)
	}
	return zoned(sec, r.Intn(2*64800+1)-64800)
}

// someInt is a number of any length.
func someInt(r *rand.Rand) int { return int(r.Uint64()) >> r.Intn(64) }

// The limits that the tests of this package have written out.
func TestLimits(t *testing.T) {
	if api.MaxOffset != 64800 || clock.Day != 86400 {
		t.Error("the tests of this package are written for other limits")
	}
}
