package lexical_test

import (
	"math/rand"
	"strings"
	"testing"

	"casuist/civil"
	"casuist/clock"
	"casuist/lexical"
	"casuist/moment"
)

func TestP92ReadDate(t *testing.T) {
	for text, want := range map[string]civil.Date{
		"2024-02-29":       day(2024, 2, 29),
		"0005-01-02":       day(5, 1, 2),
		"0000-01-01":       day(0, 1, 1),
		"0099-12-31":       day(99, 12, 31),
		"-0001-12-31":      day(-1, 12, 31),
		"-0044-03-15":      day(-44, 3, 15),
		"12345-09-30":      day(12345, 9, 30),
		"123456-12-31":     day(123456, 12, 31),
		"-10000-01-01":     day(-10000, 1, 1),
		"-999999999-01-01": day(-999999999, 1, 1),
		"999999999-12-31":  day(999999999, 12, 31),
	} {
		if got, ok := lexical.ReadDate(text); got != want || !ok {
			t.Errorf("ReadDate(%q) = %v, %v", text, got, ok)
		}
	}
}

func TestP92ReadTime(t *testing.T) {
	for text, want := range map[string]clock.Time{
		"00:00:00":          plain(0, 0, 0),
		"10:20:30":          plain(10, 20, 30),
		"23:59:59":          plain(23, 59, 59),
		"00:00:00Z":         zoned(0, 0, 0, 0),
		"10:20:30Z":         zoned(10, 20, 30, 0),
		"01:01:01-05:30":    zoned(1, 1, 1, -19800),
		"23:59:59+05:30":    zoned(23, 59, 59, 19800),
		"12:00:00+01:00":    zoned(12, 0, 0, 3600),
		"12:00:00-00:01":    zoned(12, 0, 0, -60),
		"12:00:00+00:00:01": zoned(12, 0, 0, 1),
		"01:01:01-00:00:15": zoned(1, 1, 1, -15),
		"12:00:00+17:59:59": zoned(12, 0, 0, 64799),
		"12:00:00-17:59:59": zoned(12, 0, 0, -64799),
		"12:00:00+18:00":    zoned(12, 0, 0, 64800),
		"12:00:00-18:00":    zoned(12, 0, 0, -64800),
	} {
		if got, ok := lexical.ReadTime(text); got != want || !ok {
			t.Errorf("ReadTime(%q) = %v, %v", text, got, ok)
		}
	}
}

func TestP92ReadMoment(t *testing.T) {
	for text, want := range map[string]moment.Moment{
		"2024-02-29T12:34:56":                {Date: day(2024, 2, 29), Time: plain(12, 34, 56)},
		"1970-01-01T00:00:00Z":               {Date: day(1970, 1, 1), Time: zoned(0, 0, 0, 0)},
		"-0044-03-15T09:00:00+01:00":         {Date: day(-44, 3, 15), Time: zoned(9, 0, 0, 3600)},
		"-0044-03-15T09:00:00-01:00":         {Date: day(-44, 3, 15), Time: zoned(9, 0, 0, -3600)},
		"-0044-03-15T09:00:00":               {Date: day(-44, 3, 15), Time: plain(9, 0, 0)},
		"0005-01-02T01:01:01-05:30":          {Date: day(5, 1, 2), Time: zoned(1, 1, 1, -19800)},
		"-999999999-01-01T00:00:00+17:59:59": {Date: day(-999999999, 1, 1), Time: zoned(0, 0, 0, 64799)},
		"999999999-12-31T23:59:59-18:00":     {Date: day(999999999, 12, 31), Time: zoned(23, 59, 59, -64800)},
	} {
		if got, ok := lexical.ReadMoment(text); got != want || !ok {
			t.Errorf("ReadMoment(%q) = %v, %v", text, got, ok)
		}
	}
}

// Texts that are no day's, and with a time behind them no moment's.
func TestP92NoDays(t *testing.T) {
	for _, s := range []string{
		"", "-", "2024", "2024-", "2024-02", "2024-02-", "-2024", "2024-02-2", "2024-2-29", "24-02-29", "024-02-29", "2024-02-290", "2024-002-29", "2024-02-029",
		"2024-02-29 ", " 2024-02-29", "2024 -02-29", "2024- 02-29", "2024-02-29x", "x2024-02-29", "2024-02-29-", "--2024-02-29", "- 2024-02-29", "+2024-02-29", "-+2024-02-29", "2024--02-29", "2024-02--29", "2024-+2-29", "2024-02-29T", "2024-02-29Z", "2024-02-29-01",
		"2024/02/29", "2024.02.29", "2024:02:29", "20240229", "2024-0229", "2024\u221202\u221229", "29-02-2024", "2024-02-29\n", "2024-02-29\x00", "\ufeff2024-02-29",
		"02024-01-01", "00001-01-01", "-02024-01-01", "-00044-03-15", "0123456-12-31", "000000000-01-01",
		"-0000-01-01", "-0000-12-31", "-0000-02-29", "-000-01-01", "1-01-01", "12-01-01", "123-01-01", "-1-01-01", "-44-03-15", "-044-03-15",
		"2024-00-01", "2024-13-01", "2024-99-01", "2024-01-00", "2024-01-32", "2024-01-99", "2024-04-31", "2024-02-30", "2023-02-29", "1900-02-29", "-0001-02-29", "2024-00-00", "0000-00-00",
		"1000000000-01-01", "-1000000000-12-31", "9999999999-01-01", "18446744073709553640-01-01", "-18446744073709553640-01-01", "18446744073709551616-01-01", "340282366920938463463374607431768213480-01-01",
		"\u0662\u0660\u0662\u0664-\u0660\u0662-\u0662\u0669", "\uff12\uff10\uff12\uff14-02-29", "2024-02-2\uff19", "2024\uff0d02-29", "2024-02-2\u0669", "2024-0\u00b2-29", "2024-02-2\xff", "\xff2024-02-29", "2024-02-29\xff", "2024\xad02-29", "\xc0\xb2024-02-29",
	} {
		checkNothing(t, s)
		for _, x := range []string{"T12:34:56", "T00:00:00Z", "T12:34:56+01:00"} {
			checkNothing(t, s+x)
		}
	}
}

// Texts that are no time's, and with a day ahead no moment's.
func TestP92NoTimes(t *testing.T) {
	for _, s := range []string{
		"", "1", "10", "10:", "10:20", "10:20:", "10:20:3", "1:20:30", "10:2:30", "010:20:30", "10:020:30", "10:20:030", "10:20:300", "102030", "10-20-30", "10.20.30", "10:20:30.0", "10:20:30.5", "10:20:30:", "10:20:30:40", ":20:30", "10::30",
		"10:20:30 ", " 10:20:30", "10 :20:30", "10:20:30\n", "10:20:30\x00", "-10:20:30", "+10:20:30", "T10:20:30", "10:20:30T", "10:20:30-", "10:20:30+",
		"24:00:00", "24:00:00Z", "25:00:00", "99:00:00", "23:60:00", "23:99:00", "23:59:60", "23:59:99", "00:60:00", "00:00:60", "00:00:86399", "24:00:00+01:00",
		"10:20:30z", "10:20:30ZZ", "10:20:30 Z", "Z10:20:30", "Z", "10:20Z", "10:20:3Z", "10:20:30Z ", "10:20:30Z+01:00", "10:20:30+01:00Z", "10:20:30Z00:00", "10:20:30Z01:00", "10:20:30A", "10:20:30UTC", "10:20:30@Europe/Paris",
		"10:20:30+00:00", "10:20:30-00:00", "10:20:30+00:00:00", "10:20:30-00:00:00", "10:20:30+01:00:00", "10:20:30-05:30:00", "10:20:30-18:00:00",
		"10:20:30+18:00:01", "10:20:30-18:00:01", "10:20:30+18:01", "10:20:30-18:01", "10:20:30+19:00", "10:20:30-19:00", "10:20:30+24:00", "10:20:30+99:00", "10:20:30+18:59:59",
		"10:20:30+5:30", "10:20:30+05", "10:20:30+05:", "10:20:30+05:3", "10:20:30+0530", "10:20:30+05:030", "10:20:30+005:30", "10:20:30+05:30:", "10:20:30+05:30:1", "10:20:30+05:30:010", "10:20:30+05:30:15:00", "10:20:30+05:30:15.5", "10:20:30+05:60", "10:20:30+05:30:60", "10:20:30+00:330", "10:20:30+00:90", "10:20:30+00:00:90",
		"10:20:30 +05:30", "10:20:30+ 05:30", "10:20:30+05:30 ", "10:20:30++05:30", "10:20:30--05:30", "10:20:30+-05:30", "10:20:30-+05:30", "10:20:30+05-30", "10:20:30\u221205:30", "10:20:30:05:30", "10:20:3005:30", "10:20-30+05:30", "10:20:30-05:30-", "10:20:30+05:30-",
		"10:20:30+18446744073709551621:30", "18446744073709551626:20:30", "10:20:18446744073709551646", "4294967306:20:30",
		"\u0661\u0660:\u0662\u0660:\u0663\u0660", "\uff11\uff10:20:30", "10:20:3\uff10", "10\uff1a20:30", "10:20:30\uff3a", "10:20:3\u0660", "10:20:30\xff", "\xff10:20:30", "10:20:3\xff", "10:20:30+05:3\xc3", "10:20:30Z\xff",
	} {
		checkNothing(t, s)
		checkNothing(t, "2024-02-29T"+s)
		checkNothing(t, "-0044-03-15T"+s)
	}
}

func TestP92NoMoments(t *testing.T) {
	for _, s := range []string{
		"T", "TT", "2024-02-29T", "T12:34:56", "2024-02-29t12:34:56", "2024-02-29 12:34:56", "2024-02-29T 12:34:56", "2024-02-29 T12:34:56", "2024-02-29TT12:34:56", "2024-02-29T12:34:56T", "T2024-02-29T12:34:56", "2024-02-29T12:34:56T12:34:56", "2024-02-29T2024-02-29", "12:34:56T2024-02-29", "12:34:56T12:34:56", "2024-02-2912:34:56", "2024-02-29-12:34:56", "2024-02-29T-12:34:56", "2024-02-29T12:34", "2024-02-29T12", "2024-02T12:34:56",
		"2023-02-29T12:34:56", "2024-02-30T12:34:56Z", "2024-02-29T24:00:00", "2024-02-29T12:34:56-00:00", "2024-02-29T12:34:56+18:00:01", "1000000000-01-01T00:00:00", "-0000-01-01T00:00:00", " 2024-02-29T12:34:56", "2024-02-29T12:34:56 ", "+2024-02-29T12:34:56", "2024-02-29\u042212:34:56", "2024-02-29\xffT12:34:56", "2024-02-29T\xff12:34:56",
	} {
		checkNothing(t, s)
	}
}

// One kind's text is not another one's.
func TestP92OtherKinds(t *testing.T) {
	date, time, both := "2024-02-29", "12:34:56Z", "2024-02-29T12:34:56Z"
	for _, s := range []string{time, both, "P1D", "P1M"} {
		if got, ok := lexical.ReadDate(s); got != (civil.Date{}) || ok {
			t.Errorf("ReadDate(%q) = %v, %v", s, got, ok)
		}
	}
	for _, s := range []string{date, both, "P1D", "PT1S"} {
		if got, ok := lexical.ReadTime(s); got != (clock.Time{}) || ok {
			t.Errorf("ReadTime(%q) = %v, %v", s, got, ok)
		}
	}
	for _, s := range []string{date, time, "P1DT1S"} {
		if got, ok := lexical.ReadMoment(s); got != (moment.Moment{}) || ok {
			t.Errorf("ReadMoment(%q) = %v, %v", s, got, ok)
		}
	}
}

// checkThere holds that a day, a time and their moment are read from their texts, as the words make these.
func checkThere(t *testing.T, d civil.Date, x clock.Time) {
	t.Helper()
	if got, ok := lexical.ReadDate(dateModel(d)); got != d || !ok {
		t.Errorf("ReadDate(%q) = %v, %v", dateModel(d), got, ok)
	}
	if got, ok := lexical.ReadTime(timeModel(x)); got != x || !ok {
		t.Errorf("ReadTime(%q) = %v, %v", timeModel(x), got, ok)
	}
	m := moment.Moment{Date: d, Time: x}
	if got, ok := lexical.ReadMoment(momentModel(m)); got != m || !ok {
		t.Errorf("ReadMoment(%q) = %v, %v", momentModel(m), got, ok)
	}
}

func TestP92ThereAndBack(t *testing.T) {
	days, times := edgeDays(), edgeTimes()
	for i := range len(days) * len(times) / 16 {
		checkThere(t, days[i%len(days)], times[i%len(times)])
	}
	for sec := range 86400 {
		checkThere(t, day(sec*11573-500000000, 1+sec%12, 1+sec%28), clock.Time{Sec: sec, Zoned: true, Offset: sec*3/2 - 64799})
	}
	r := rand.New(rand.NewSource(92))
	for range 20000 {
		checkThere(t, someDay(r), someTime(r))
	}
}

// One sign more, less or another: the texts are held against the words one by one.
func TestP92NearTexts(t *testing.T) {
	for _, s := range []string{
		"2024-02-29", "0005-01-02", "0000-12-31", "-0044-03-15", "12345-09-30", "-10000-10-10", "999999999-12-31", "-999999999-01-01",
		"00:00:00", "23:59:59", "10:20:30Z", "01:01:01-05:30", "12:00:00+18:00", "12:00:00-18:00", "12:00:00+00:00:01", "09:09:09-17:59:59",
		"2024-02-29T12:34:56", "-0044-03-15T09:00:00Z", "0005-01-02T01:01:01-05:30", "-999999999-01-01T23:59:59+17:59:59",
	} {
		for _, x := range near(s) {
			checkReadAll(t, x)
		}
	}
}

func TestP92SomeTexts(t *testing.T) {
	r := rand.New(rand.NewSource(920))
	for range 20000 {
		s := momentModel(moment.Moment{Date: someDay(r), Time: someTime(r)})
		for range 3 {
			checkReadMoment(t, s)
			day, time, _ := strings.Cut(s, "T")
			checkReadDate(t, day)
			checkReadTime(t, time)
			s = changed(r, s)
		}
	}
}

// Any texts: the calls end, and answer as the chapter says.
func TestW1AnyTexts(t *testing.T) {
	r := rand.New(rand.NewSource(9))
	for range 20000 {
		bytes := make([]byte, r.Intn(24))
		for i := range bytes {
			bytes[i] = byte(r.Intn(256))
		}
		checkReadAll(t, string(bytes))
		var text strings.Builder
		for range r.Intn(16) {
			text.WriteString(signs()[r.Intn(len(signs()))])
		}
		checkReadAll(t, text.String())
	}
	for _, s := range signs() {
		for _, x := range signs() {
			checkReadAll(t, s+x)
		}
	}
}

func TestW1LongTexts(t *testing.T) {
	const many = 1 << 20
	for _, s := range []string{"0", "1", "9", "-", ":", "1-", "1:", "T", "P", "1D", "1T", "Z", " ", "\xff", "\u00e9", "2024-02-29", "10:20:30"} {
		long := strings.Repeat(s, many)
		for _, x := range []string{long, long + "-01-01", "-" + long + "-01-01", "2024-02-" + long, "2024-02-29" + long, "2024-02-29T" + long, "10:20:" + long, "10:20:30" + long, "10:20:30+" + long, "P" + long, "P" + long + "D", "PT" + long + "S", "-P1DT" + long, "P" + long + "M", "P1Y" + long + "M"} {
			checkNothing(t, x)
		}
	}
}
