package moment_test

import (
	"math"
	"math/big"
	"math/rand"
	"testing"
	"time"

	"casuist/api"
	"casuist/civil"
	"casuist/clock"
	"casuist/moment"
)

// What the chapter's words say, done plainly, with package time for the calendar and math/big for the sums, for the tests to hold the package against.

const (
	// firstInstant and lastInstant are those of the first moment there is and of the last one, of no place.
	firstInstant = -365243219162 * 86400
	lastInstant  = 365241780471*86400 + 86399
	// furthest is how far an instant may be.
	furthest = 1 << 56
)

// on is a moment of no place.
func on(y, m, d, sec int) moment.Moment {
	return moment.Moment{Date: civil.Date{Year: y, Month: m, Day: d}, Time: clock.Time{Sec: sec}}
}

// at is a moment at an offset.
func at(y, m, d, sec, offset int) moment.Moment {
	return moment.Moment{Date: civil.Date{Year: y, Month: m, Day: d}, Time: clock.Time{Sec: sec, Zoned: true, Offset: offset}}
}

// like is a time that is asked for its offset alone.
func like(offset int) clock.Time { return clock.Time{Zoned: true, Offset: offset} }

// hms is so many hours, minutes and seconds, in seconds.
func hms(h, m, s int) int { return h*3600 + m*60 + s }

func first() moment.Moment { return on(-999999999, 1, 1, 0) }

func last() moment.Moment { return on(999999999, 12, 31, 86399) }

func firstAt(offset int) moment.Moment { return at(-999999999, 1, 1, 0, offset) }

func lastAt(offset int) moment.Moment { return at(999999999, 12, 31, 86399, offset) }

func mayTimeModel(t clock.Time) bool {
	if t.Sec < 0 || t.Sec > 86399 {
		return false
	}
	if t.Zoned {
		return t.Offset >= -64800 && t.Offset <= 64800
	}
	return t.Offset == 0
}

func mayYearModel(y int) bool { return y >= -999999999 && y <= 999999999 }

// mayModel lets package time lay the day out: one that is not there becomes another one.
func mayModel(m moment.Moment) bool {
	d := m.Date
	if !mayTimeModel(m.Time) || !mayYearModel(d.Year) || d.Month < 1 || d.Month > 12 || d.Day < 1 || d.Day > 31 {
		return false
	}
	return timeOf(m).Day() == d.Day
}

func timeOf(m moment.Moment) time.Time {
	return time.Date(m.Date.Year, time.Month(m.Date.Month), m.Date.Day, 0, 0, m.Time.Sec, 0, time.FixedZone("", m.Time.Offset))
}

func instantModel(m moment.Moment) (int, bool) {
	if !mayModel(m) {
		return 0, false
	}
	return int(timeOf(m).Unix()), true
}

func ofModel(instant int, t clock.Time) (moment.Moment, bool) {
	if !mayTimeModel(t) || instant < -1<<56 || instant > 1<<56 {
		return moment.Moment{}, false
	}
	there := time.Unix(int64(instant), 0).In(time.FixedZone("", t.Offset))
	if !mayYearModel(there.Year()) {
		return moment.Moment{}, false
	}
	m := on(there.Year(), int(there.Month()), there.Day(), hms(there.Hour(), there.Minute(), there.Second()))
	m.Time.Zoned, m.Time.Offset = t.Zoned, t.Offset
	return m, true
}

func laterModel(m moment.Moment, n int) (moment.Moment, bool) {
	instant, ok := instantModel(m)
	if !ok || n < -1<<53 || n > 1<<53 {
		return moment.Moment{}, false
	}
	return ofModel(instant+n, m.Time)
}

func monthsModel(m moment.Moment, n int) (moment.Moment, bool) {
	if !mayModel(m) || n < -1<<53 || n > 1<<53 {
		return moment.Moment{}, false
	}
	all := new(big.Int).Mul(big.NewInt(int64(m.Date.Year)), big.NewInt(12))
	all.Add(all, big.NewInt(int64(m.Date.Month-1)))
	all.Add(all, big.NewInt(int64(n)))
	year, month := new(big.Int).DivMod(all, big.NewInt(12), new(big.Int))
	if year.CmpAbs(big.NewInt(999999999)) > 0 {
		return moment.Moment{}, false
	}
	m.Date.Year, m.Date.Month = int(year.Int64()), int(month.Int64())+1
	for !mayModel(m) {
		m.Date.Day--
	}
	return m, true
}

func betweenModel(a, b moment.Moment) (int, bool) {
	if !mayModel(a) || !mayModel(b) || a.Time.Zoned != b.Time.Zoned {
		return 0, false
	}
	return int(timeOf(b).Unix() - timeOf(a).Unix()), true
}

func cmpModel(a, b moment.Moment) (int, bool) {
	n, ok := betweenModel(a, b)
	switch {
	case n < 0:
		return 1, ok
	case n > 0:
		return -1, ok
	}
	return 0, ok
}

// monthsBetweenModel lays the months out as if each had 31 days: then a whole month is always as long.
func monthsBetweenModel(a, b moment.Moment) (int, bool) {
	c, ok := cmpModel(a, b)
	if !ok {
		return 0, false
	}
	if c > 0 {
		n, ok := monthsBetweenModel(b, a)
		return -n, ok
	}
	there, ok := ofModel(int(timeOf(b).Unix()), a.Time)
	if !ok {
		return 0, false
	}
	behind := new(big.Int).Sub(laidOut(there), laidOut(a))
	return int(behind.Div(behind, big.NewInt(31*86400)).Int64()), true
}

func laidOut(m moment.Moment) *big.Int {
	all := big.NewInt(int64(m.Date.Year))
	for _, x := range [][2]int{{12, m.Date.Month - 1}, {31, m.Date.Day - 1}, {86400, m.Time.Sec}} {
		all.Mul(all, big.NewInt(int64(x[0])))
		all.Add(all, big.NewInt(int64(x[1])))
	}
	return all
}

// checkMoment holds what P8.1 says of a moment, or of what is none, against the models.
func checkMoment(t *testing.T, m moment.Moment) {
	t.Helper()
	if got, want := m.May(), mayModel(m); got != want {
		t.Errorf("%v: May is %v", m, got)
	}
	i, ok := moment.Instant(m)
	if want, may := instantModel(m); i != want || ok != may {
		t.Errorf("Instant(%v) = %d, %v, not %d, %v", m, i, ok, want, may)
	}
	if !ok {
		return
	}
	if got, ok := moment.Of(i, m.Time); got != m || !ok {
		t.Errorf("Of(%d, %v) = %v, %v, not %v", i, m.Time, got, ok, m)
	}
}

func checkOf(t *testing.T, instant int, like clock.Time) {
	t.Helper()
	got, ok := moment.Of(instant, like)
	if want, may := ofModel(instant, like); got != want || ok != may {
		t.Errorf("Of(%d, %v) = %v, %v, not %v, %v", instant, like, got, ok, want, may)
	}
}

func checkLater(t *testing.T, m moment.Moment, n int) {
	t.Helper()
	got, ok := moment.Later(m, n)
	if want, may := laterModel(m, n); got != want || ok != may {
		t.Errorf("Later(%v, %d) = %v, %v, not %v, %v", m, n, got, ok, want, may)
	}
}

func checkMonths(t *testing.T, m moment.Moment, n int) {
	t.Helper()
	got, ok := moment.Months(m, n)
	if want, may := monthsModel(m, n); got != want || ok != may {
		t.Errorf("Months(%v, %d) = %v, %v, not %v, %v", m, n, got, ok, want, may)
	}
}

// checkPair holds what P8.3 and P8.4 say of two moments against the models.
func checkPair(t *testing.T, a, b moment.Moment) {
	t.Helper()
	n, ok := moment.Between(a, b)
	if want, may := betweenModel(a, b); n != want || ok != may {
		t.Errorf("Between(%v, %v) = %d, %v, not %d, %v", a, b, n, ok, want, may)
	}
	c, ok := moment.Cmp(a, b)
	if want, may := cmpModel(a, b); c != want || ok != may {
		t.Errorf("Cmp(%v, %v) = %d, %v, not %d, %v", a, b, c, ok, want, may)
	}
	months, ok := moment.MonthsBetween(a, b)
	if want, may := monthsBetweenModel(a, b); months != want || ok != may {
		t.Errorf("MonthsBetween(%v, %v) = %d, %v, not %d, %v", a, b, months, ok, want, may)
	}
}

// edgeInts are numbers at an edge of something, the ends of int among them.
func edgeInts() []int {
	return []int{
		math.MinInt, math.MinInt + 1, math.MinInt + 64800, -1 << 62, -furthest - 1, -furthest, firstInstant - 64801, firstInstant - 64800, firstInstant - 1, firstInstant, firstInstant + 64800, -api.MaxSpan - 1, -api.MaxSpan, -api.MaxSpan + 1, -1 << 32, -172800, -86401, -86400, -86399, -64801, -64800, -3600, -13, -12, -1,
		0, 1, 11, 12, 13, 48, 3600, 64800, 64801, 86399, 86400, 86401, 172800, 1 << 31, 1 << 32, api.MaxSpan - 1, api.MaxSpan, api.MaxSpan + 1, lastInstant - 64800, lastInstant, lastInstant + 1, lastInstant + 64800, lastInstant + 64801, furthest, furthest + 1, 1 << 62, math.MaxInt - 64800, math.MaxInt - 1, math.MaxInt,
	}
}

// edgeMoments are moments at an edge, of no place and at offsets.
func edgeMoments() []moment.Moment {
	var out []moment.Moment
	for _, d := range [][3]int{{-999999999, 1, 1}, {-999999999, 1, 2}, {-1, 12, 31}, {0, 1, 1}, {0, 2, 29}, {1969, 12, 31}, {1970, 1, 1}, {2023, 2, 28}, {2023, 3, 1}, {2024, 1, 31}, {2024, 2, 29}, {2024, 3, 1}, {2024, 12, 31}, {999999999, 12, 30}, {999999999, 12, 31}} {
		for _, sec := range []int{0, 43200, 86399} {
			out = append(out, on(d[0], d[1], d[2], sec))
			for _, offset := range []int{-64800, -1, 0, 3600, 64800} {
				out = append(out, at(d[0], d[1], d[2], sec, offset))
			}
		}
	}
	return out
}

// noTimes are times that may not be: for their seconds, or for their offset.
func noTimes() []clock.Time {
	var out []clock.Time
	for _, sec := range []int{-1, 86400, math.MinInt, math.MaxInt} {
		out = append(out, clock.Time{Sec: sec}, clock.Time{Sec: sec, Zoned: true}, clock.Time{Sec: sec, Zoned: true, Offset: 3600})
	}
	for _, offset := range []int{-64801, 64801, math.MinInt, math.MaxInt} {
		out = append(out, like(offset), clock.Time{Sec: 86399, Zoned: true, Offset: offset})
	}
	for _, offset := range []int{-64800, -1, 1, 3600, 64800, math.MinInt, math.MaxInt} {
		out = append(out, clock.Time{Offset: offset}, clock.Time{Sec: 86399, Offset: offset})
	}
	return out
}

// noDays are days that there are not.
func noDays() []civil.Date {
	return []civil.Date{
		{}, {Year: 2023, Month: 2, Day: 29}, {Year: 2024, Month: 2, Day: 30}, {Year: 1900, Month: 2, Day: 29}, {Year: 2024, Month: 4, Day: 31}, {Year: 2024, Month: 1, Day: 32}, {Year: 2024, Month: 1, Day: 0}, {Year: 2024, Month: 1, Day: -1}, {Year: 2024, Month: 0, Day: 1}, {Year: 2024, Month: 13, Day: 1}, {Year: 2024, Month: -1, Day: 1},
		{Year: 1000000000, Month: 1, Day: 1}, {Year: -1000000000, Month: 12, Day: 31},
		{Year: math.MaxInt, Month: 1, Day: 1}, {Year: math.MinInt, Month: 1, Day: 1}, {Year: 2024, Month: math.MaxInt, Day: 1}, {Year: 2024, Month: math.MinInt, Day: 1}, {Year: 2024, Month: 1, Day: math.MaxInt}, {Year: 2024, Month: 1, Day: math.MinInt},
	}
}

// noMoments are such as may not be: for their day, for their time, or for both.
func noMoments() []moment.Moment {
	var out []moment.Moment
	day := civil.Date{Year: 2024, Month: 2, Day: 29}
	for _, x := range noTimes() {
		out = append(out, moment.Moment{Date: day, Time: x}, moment.Moment{Time: x})
	}
	for _, x := range noDays() {
		out = append(out, moment.Moment{Date: x}, moment.Moment{Date: x, Time: clock.Time{Sec: 86399}}, moment.Moment{Date: x, Time: like(3600)})
	}
	return out
}

// someTime is a time: of no place, or of one.
func someTime(r *rand.Rand) clock.Time {
	t := clock.Time{Sec: r.Intn(86400)}
	if r.Intn(3) != 0 {
		t.Zoned, t.Offset = true, r.Intn(2*64800+1)-64800
	}
	return t
}

// someMoment is a moment: of any year, or of one not far from an edge.
func someMoment(r *rand.Rand) moment.Moment {
	instant := firstInstant + 64800 + r.Intn(lastInstant-firstInstant-2*64800)
	switch r.Intn(4) {
	case 0:
		instant = firstInstant + 64800 + r.Intn(10000000)
	case 1:
		instant = lastInstant - 64800 - r.Intn(10000000)
	case 2:
		instant = r.Intn(4000000000) - 500000000
	}
	m, _ := ofModel(instant, someTime(r))
	return m
}

// someInt is a number of any length.
func someInt(r *rand.Rand) int { return int(r.Uint64()) >> r.Intn(64) }

// The limits that the tests of this package have written out.
func TestLimits(t *testing.T) {
	if api.MaxOffset != 64800 || api.MaxYear != 999999999 || api.MaxSpan != 1<<53 || clock.Day != 86400 {
		t.Error("the tests of this package are written for other limits")
	}
}
