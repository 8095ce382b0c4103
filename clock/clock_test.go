package clock_test

import (
	"math"
	"math/rand"
	"testing"

	"casuist/clock"
)

func TestP71May(t *testing.T) {
	for _, x := range []clock.Time{
		{}, plain(0), plain(1), plain(43200), plain(86398), plain(86399),
		zoned(0, 0), zoned(86399, 0), zoned(0, 64800), zoned(86399, 64800), zoned(0, -64800), zoned(86399, -64800), zoned(36000, 3600), zoned(36000, -19800), zoned(1, 1), zoned(1, -1),
	} {
		if !x.May() {
			t.Errorf("%v: there is such a time", x)
		}
	}
	for _, x := range []clock.Time{
		plain(-1), plain(86400), zoned(-1, 0), zoned(86400, 0), plain(math.MinInt), plain(math.MaxInt),
		zoned(0, -64801), zoned(0, 64801), zoned(0, math.MinInt), zoned(0, math.MaxInt),
		{Offset: 1}, {Offset: -1}, {Offset: 60}, {Offset: 3600}, {Offset: 64800}, {Offset: -64800}, {Sec: 36000, Offset: 3600}, {Offset: math.MinInt}, {Offset: math.MaxInt},
		zoned(-1, 64801), zoned(86400, -64801),
	} {
		if x.May() {
			t.Errorf("%v: there is no such time", x)
		}
	}
}

func TestP71Of(t *testing.T) {
	for _, x := range []struct{ h, m, s, sec int }{
		{0, 0, 0, 0}, {0, 0, 1, 1}, {0, 0, 59, 59}, {0, 1, 0, 60}, {0, 59, 0, 3540}, {0, 59, 59, 3599}, {1, 0, 0, 3600}, {1, 1, 1, 3661},
		{10, 0, 0, 36000}, {12, 34, 56, 45296}, {23, 0, 0, 82800}, {23, 0, 59, 82859}, {23, 59, 0, 86340}, {23, 59, 59, 86399},
	} {
		if got, ok := clock.Of(x.h, x.m, x.s); got != plain(x.sec) || !ok {
			t.Errorf("Of(%d, %d, %d) = %v, %v", x.h, x.m, x.s, got, ok)
		}
	}
}

func TestP71OfNoTime(t *testing.T) {
	for _, x := range [][3]int{
		{24, 0, 0}, {-1, 0, 0}, {0, 60, 0}, {0, -1, 0}, {0, 0, 60}, {0, 0, -1}, {23, 59, 60}, {23, 60, 59}, {24, 59, 59}, {-1, 59, 59}, {1, -1, 0}, {1, 0, -1}, {0, 1, -1},
		{24, 60, 60}, {-1, -1, -1}, {25, -60, 0}, {-1, 60, 0}, {1, -60, 0}, {0, 60, -60}, {0, 0, 86399}, {0, 1439, 59},
		{math.MaxInt, 0, 0}, {math.MinInt, 0, 0}, {0, math.MaxInt, 0}, {0, math.MinInt, 0}, {0, 0, math.MaxInt}, {0, 0, math.MinInt}, {math.MaxInt, math.MaxInt, math.MaxInt}, {math.MinInt, math.MinInt, math.MinInt},
	} {
		if got, ok := clock.Of(x[0], x[1], x[2]); got != (clock.Time{}) || ok {
			t.Errorf("Of(%d, %d, %d) = %v, %v", x[0], x[1], x[2], got, ok)
		}
	}
}

func TestP71OfByTheWords(t *testing.T) {
	for h := -2; h <= 26; h++ {
		for m := -2; m <= 62; m++ {
			for s := -2; s <= 62; s++ {
				checkOf(t, h, m, s)
			}
		}
	}
	for _, h := range edgeInts() {
		for _, m := range edgeInts() {
			for _, s := range edgeInts() {
				checkOf(t, h, m, s)
			}
		}
	}
}

// Where a product of the hours and 3600, or of the minutes and 60, goes round, a time may not come of it.
func TestP71OfNumbersThatGoRound(t *testing.T) {
	for _, x := range [][3]int{{1 << 60, 0, 0}, {-1 << 60, 0, 0}, {1<<60 + 1, 0, 0}, {0, 1 << 62, 0}, {0, 1<<62 + 1, 0}, {1 << 60, 1 << 62, 1}} {
		checkOf(t, x[0], x[1], x[2])
		if _, ok := clock.Of(x[0], x[1], x[2]); ok {
			t.Errorf("Of(%d, %d, %d): there is no such time", x[0], x[1], x[2])
		}
	}
}

func TestP71At(t *testing.T) {
	for _, x := range []struct {
		t      clock.Time
		offset int
		want   clock.Time
	}{
		{plain(0), 0, zoned(0, 0)},
		{plain(36000), 3600, zoned(36000, 3600)},
		{plain(36000), -19800, zoned(36000, -19800)},
		{plain(86399), 64800, zoned(86399, 64800)},
		{plain(86399), -64800, zoned(86399, -64800)},
		{plain(0), 64800, zoned(0, 64800)},
		{plain(0), -64800, zoned(0, -64800)},
		{plain(5), 1, zoned(5, 1)},
		// One that has an offset gets another one: the hour on the clock stays.
		{zoned(36000, 3600), 0, zoned(36000, 0)},
		{zoned(36000, 0), 7200, zoned(36000, 7200)},
		{zoned(36000, 3600), 3600, zoned(36000, 3600)},
		{zoned(36000, -64800), 64800, zoned(36000, 64800)},
		// These may not be for their offset alone, which doesn't stay.
		{clock.Time{Sec: 36000, Offset: 60}, 3600, zoned(36000, 3600)},
		{zoned(36000, 64801), 3600, zoned(36000, 3600)},
		{zoned(36000, math.MinInt), 0, zoned(36000, 0)},
	} {
		if got, ok := clock.At(x.t, x.offset); got != x.want || !ok {
			t.Errorf("At(%v, %d) = %v, %v, not %v", x.t, x.offset, got, ok, x.want)
		}
	}
}

func TestP71AtNoTime(t *testing.T) {
	for _, x := range []struct {
		t      clock.Time
		offset int
	}{
		{plain(0), 64801}, {plain(0), -64801}, {plain(36000), 86400}, {plain(36000), -86400}, {plain(86399), math.MaxInt}, {plain(86399), math.MinInt},
		{zoned(36000, 3600), 64801}, {zoned(36000, 3600), -64801}, {zoned(0, 0), math.MaxInt}, {zoned(0, 0), math.MinInt},
		{plain(-1), 0}, {plain(86400), 0}, {plain(-1), 3600}, {plain(86400), -3600}, {zoned(-1, 0), 0}, {zoned(86400, 3600), 3600}, {plain(math.MinInt), 0}, {plain(math.MaxInt), 0},
		{plain(-1), 64801}, {clock.Time{Sec: 86400, Offset: 60}, 0},
	} {
		if got, ok := clock.At(x.t, x.offset); got != (clock.Time{}) || ok {
			t.Errorf("At(%v, %d) = %v, %v", x.t, x.offset, got, ok)
		}
	}
}

func TestP71AtByTheWords(t *testing.T) {
	for offset := -64900; offset <= 64900; offset++ {
		checkAt(t, plain(86399), offset)
		checkAt(t, zoned(0, 60), offset)
	}
	for _, x := range edgeTimes() {
		for _, offset := range edgeInts() {
			checkAt(t, x, offset)
		}
	}
}

func TestP71Parts(t *testing.T) {
	for _, x := range []struct {
		t       clock.Time
		h, m, s int
	}{
		{plain(0), 0, 0, 0}, {plain(59), 0, 0, 59}, {plain(60), 0, 1, 0}, {plain(3599), 0, 59, 59}, {plain(3600), 1, 0, 0}, {plain(3661), 1, 1, 1},
		{plain(45296), 12, 34, 56}, {plain(82800), 23, 0, 0}, {plain(82799), 22, 59, 59}, {plain(86399), 23, 59, 59},
		// The parts are those on the clock there, not at Greenwich.
		{zoned(45296, 0), 12, 34, 56}, {zoned(45296, 64800), 12, 34, 56}, {zoned(45296, -64800), 12, 34, 56}, {zoned(45296, 19801), 12, 34, 56}, {zoned(0, 1), 0, 0, 0}, {zoned(86399, -1), 23, 59, 59},
	} {
		if h, m, s := x.t.Hour(), x.t.Minute(), x.t.Second(); h != x.h || m != x.m || s != x.s {
			t.Errorf("%v: the parts are %d, %d, %d", x.t, h, m, s)
		}
	}
}

// Each time of the day is made of its parts, and has them.
func TestP71EachSecond(t *testing.T) {
	for sec := -2; sec <= 86402; sec++ {
		checkParts(t, plain(sec))
		checkParts(t, zoned(sec, 3600))
		if sec < 0 || sec > 86399 {
			continue
		}
		x := plain(sec)
		if got, ok := clock.Of(x.Hour(), x.Minute(), x.Second()); got != x || !ok {
			t.Errorf("Of the parts of %v = %v, %v", x, got, ok)
		}
	}
}

func TestP71EachOffset(t *testing.T) {
	for offset := -64900; offset <= 64900; offset++ {
		checkParts(t, zoned(0, offset))
		checkParts(t, zoned(86399, offset))
		checkParts(t, clock.Time{Sec: 43200, Offset: offset})
	}
}

// Any numbers: the calls end, and tell what the words say.
func TestW1AnyTimes(t *testing.T) {
	for _, sec := range edgeInts() {
		for _, offset := range edgeInts() {
			checkParts(t, clock.Time{Sec: sec, Offset: offset})
			checkParts(t, zoned(sec, offset))
		}
	}
	r := rand.New(rand.NewSource(7))
	for range 20000 {
		x := clock.Time{Sec: someInt(r), Zoned: r.Intn(2) == 0, Offset: someInt(r)}
		checkParts(t, x)
		checkAt(t, x, someInt(r))
		checkLater(t, x, someInt(r))
		checkPair(t, x, someTime(r))
		checkPair(t, someTime(r), x)
		checkPair(t, x, x)
	}
}
