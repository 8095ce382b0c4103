package lexical_test

import (
	"math"
	"math/rand"
	"testing"

	"casuist/civil"
	"casuist/clock"
	"casuist/lexical"
	"casuist/moment"
)

func TestP91Date(t *testing.T) {
	for _, x := range []struct {
		d    civil.Date
		text string
	}{
		{day(2024, 2, 29), "2024-02-29"},
		{day(5, 1, 2), "0005-01-02"},
		{day(1, 1, 1), "0001-01-01"},
		{day(12, 12, 12), "0012-12-12"},
		{day(123, 1, 31), "0123-01-31"},
		{day(1234, 10, 10), "1234-10-10"},
		{day(12345, 9, 30), "12345-09-30"},
		{day(123456, 12, 31), "123456-12-31"},
		{day(1234567, 7, 4), "1234567-07-04"},
		{day(12345678, 11, 9), "12345678-11-09"},
		{day(123456789, 8, 1), "123456789-08-01"},
		{day(9999, 12, 31), "9999-12-31"},
		{day(10000, 1, 1), "10000-01-01"},
		{day(1000, 1, 1), "1000-01-01"},
		{day(999, 1, 1), "0999-01-01"},
		{day(0, 1, 1), "0000-01-01"},
		{day(0, 2, 29), "0000-02-29"},
		{day(-1, 12, 31), "-0001-12-31"},
		{day(-44, 3, 15), "-0044-03-15"},
		{day(-753, 4, 21), "-0753-04-21"},
		{day(-9999, 1, 1), "-9999-01-01"},
		{day(-10000, 1, 1), "-10000-01-01"},
		{day(-999999999, 1, 1), "-999999999-01-01"},
		{day(999999999, 12, 31), "999999999-12-31"},
	} {
		if got := lexical.Date(x.d); got != x.text {
			t.Errorf("Date(%v) = %q, not %q", x.d, got, x.text)
		}
	}
}

func TestP91Time(t *testing.T) {
	for _, x := range []struct {
		t    clock.Time
		text string
	}{
		{plain(0, 0, 0), "00:00:00"},
		{plain(10, 20, 30), "10:20:30"},
		{plain(1, 2, 3), "01:02:03"},
		{plain(0, 0, 9), "00:00:09"},
		{plain(0, 59, 0), "00:59:00"},
		{plain(23, 59, 59), "23:59:59"},
		{zoned(0, 0, 0, 0), "00:00:00Z"},
		{zoned(23, 59, 59, 0), "23:59:59Z"},
		{zoned(1, 1, 1, -19800), "01:01:01-05:30"},
		{zoned(1, 1, 1, 19800), "01:01:01+05:30"},
		{zoned(12, 0, 0, 3600), "12:00:00+01:00"},
		{zoned(12, 0, 0, -3600), "12:00:00-01:00"},
		{zoned(12, 0, 0, 36000), "12:00:00+10:00"},
		{zoned(12, 0, 0, 60), "12:00:00+00:01"},
		{zoned(12, 0, 0, -60), "12:00:00-00:01"},
		{zoned(12, 0, 0, 2700), "12:00:00+00:45"},
		{zoned(12, 0, 0, 1), "12:00:00+00:00:01"},
		{zoned(12, 0, 0, -1), "12:00:00-00:00:01"},
		{zoned(12, 0, 0, -15), "12:00:00-00:00:15"},
		{zoned(12, 0, 0, 3601), "12:00:00+01:00:01"},
		{zoned(12, 0, 0, -3661), "12:00:00-01:01:01"},
		{zoned(12, 0, 0, 64799), "12:00:00+17:59:59"},
		{zoned(12, 0, 0, -64799), "12:00:00-17:59:59"},
		{zoned(12, 0, 0, 64800), "12:00:00+18:00"},
		{zoned(12, 0, 0, -64800), "12:00:00-18:00"},
	} {
		if got := lexical.Time(x.t); got != x.text {
			t.Errorf("Time(%v) = %q, not %q", x.t, got, x.text)
		}
	}
}

func TestP91Moment(t *testing.T) {
	for _, x := range []struct {
		m    moment.Moment
		text string
	}{
		{moment.Moment{Date: day(2024, 2, 29), Time: plain(12, 34, 56)}, "2024-02-29T12:34:56"},
		{moment.Moment{Date: day(1970, 1, 1), Time: zoned(0, 0, 0, 0)}, "1970-01-01T00:00:00Z"},
		{moment.Moment{Date: day(5, 1, 2), Time: zoned(1, 1, 1, -19800)}, "0005-01-02T01:01:01-05:30"},
		{moment.Moment{Date: day(-44, 3, 15), Time: zoned(9, 0, 0, 3600)}, "-0044-03-15T09:00:00+01:00"},
		{moment.Moment{Date: day(-999999999, 1, 1), Time: zoned(0, 0, 0, 64799)}, "-999999999-01-01T00:00:00+17:59:59"},
		{moment.Moment{Date: day(999999999, 12, 31), Time: zoned(23, 59, 59, -64800)}, "999999999-12-31T23:59:59-18:00"},
		{moment.Moment{Date: day(0, 1, 1)}, "0000-01-01T00:00:00"},
	} {
		if got := lexical.Moment(x.m); got != x.text {
			t.Errorf("Moment(%v) = %q, not %q", x.m, got, x.text)
		}
	}
}

func TestP91OfWhatMayNotBe(t *testing.T) {
	for _, d := range noDays() {
		if got := lexical.Date(d); got != "" {
			t.Errorf("Date(%v) = %q", d, got)
		}
		for _, x := range []clock.Time{{}, plain(23, 59, 59), zoned(0, 0, 0, 0), zoned(1, 1, 1, 3600)} {
			m := moment.Moment{Date: d, Time: x}
			if got := lexical.Moment(m); got != "" {
				t.Errorf("Moment(%v) = %q", m, got)
			}
		}
	}
	for _, x := range noTimes() {
		if got := lexical.Time(x); got != "" {
			t.Errorf("Time(%v) = %q", x, got)
		}
		for _, d := range []civil.Date{{}, day(2024, 2, 29), day(-1, 1, 1)} {
			m := moment.Moment{Date: d, Time: x}
			if got := lexical.Moment(m); got != "" {
				t.Errorf("Moment(%v) = %q", m, got)
			}
		}
	}
}

func checkTexts(t *testing.T, d civil.Date, x clock.Time) {
	t.Helper()
	if got, want := lexical.Date(d), dateModel(d); got != want {
		t.Errorf("Date(%v) = %q, not %q", d, got, want)
	}
	if got, want := lexical.Time(x), timeModel(x); got != want {
		t.Errorf("Time(%v) = %q, not %q", x, got, want)
	}
	m := moment.Moment{Date: d, Time: x}
	if got, want := lexical.Moment(m), momentModel(m); got != want {
		t.Errorf("Moment(%v) = %q, not %q", m, got, want)
	}
}

func TestP91ByTheWords(t *testing.T) {
	days := append(edgeDays(), noDays()...)
	times := append(edgeTimes(), noTimes()...)
	for i := range max(len(days), len(times)) {
		checkTexts(t, days[i%len(days)], times[i%len(times)])
	}
	r := rand.New(rand.NewSource(91))
	for range 20000 {
		checkTexts(t, someDay(r), someTime(r))
	}
}

func TestP91EachTimeAndOffset(t *testing.T) {
	for sec := range 86400 {
		checkTexts(t, day(1-sec, 1+sec%12, 1+sec%28), clock.Time{Sec: sec})
	}
	for offset := -64801; offset <= 64801; offset++ {
		checkTexts(t, day(offset, 1, 1), clock.Time{Sec: 45296, Zoned: true, Offset: offset})
	}
}

// Any numbers: the calls end, and tell what the words say.
func TestW1AnyNumbers(t *testing.T) {
	edges := []int{math.MinInt, math.MinInt + 1, -1 << 53, -1000000000, -999999999, -86400, -64801, -64800, -1, 0, 1, 2, 12, 13, 28, 29, 30, 31, 32, 60, 99, 100, 64800, 64801, 86399, 86400, 999999999, 1000000000, 1 << 53, math.MaxInt - 1, math.MaxInt}
	for _, a := range edges {
		for _, b := range edges {
			for _, c := range edges {
				checkTexts(t, day(a, b, c), clock.Time{Sec: a, Zoned: b%2 == 0, Offset: c})
			}
		}
	}
}
