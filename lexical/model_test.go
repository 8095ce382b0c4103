package lexical_test

import (
	"fmt"
	"math"
	"math/big"
	"math/rand"
	"regexp"
	"strings"
	"testing"
	"time"

	"casuist/api"
	"casuist/civil"
	"casuist/clock"
	"casuist/lexical"
	"casuist/moment"
)

// What the chapter's words say, done plainly, with package fmt for the texts, package regexp for their forms, package time for the calendar and math/big for the sums, for the tests to hold the package against.

func day(y, m, d int) civil.Date { return civil.Date{Year: y, Month: m, Day: d} }

// hms is so many hours, minutes and seconds, in seconds.
func hms(h, m, s int) int { return h*3600 + m*60 + s }

// plain is a time of no place.
func plain(h, m, s int) clock.Time { return clock.Time{Sec: hms(h, m, s)} }

// zoned is a time at an offset.
func zoned(h, m, s, offset int) clock.Time {
	return clock.Time{Sec: hms(h, m, s), Zoned: true, Offset: offset}
}

func mayDateModel(d civil.Date) bool {
	if d.Year < -999999999 || d.Year > 999999999 || d.Month < 1 || d.Month > 12 || d.Day < 1 || d.Day > 31 {
		return false
	}
	return time.Date(d.Year, time.Month(d.Month), d.Day, 0, 0, 0, 0, time.UTC).Day() == d.Day
}

func mayTimeModel(t clock.Time) bool {
	if t.Sec < 0 || t.Sec > 86399 {
		return false
	}
	if t.Zoned {
		return t.Offset >= -64800 && t.Offset <= 64800
	}
	return t.Offset == 0
}

func dateModel(d civil.Date) string {
	if !mayDateModel(d) {
		return ""
	}
	if d.Year < 0 {
		return fmt.Sprintf("-%04d-%02d-%02d", -d.Year, d.Month, d.Day)
	}
	return fmt.Sprintf("%04d-%02d-%02d", d.Year, d.Month, d.Day)
}

func timeModel(t clock.Time) string {
	if !mayTimeModel(t) {
		return ""
	}
	text := time.Unix(int64(t.Sec), 0).UTC().Format("15:04:05")
	if !t.Zoned {
		return text
	}
	if t.Offset == 0 {
		return text + "Z"
	}
	sign, size := "+", t.Offset
	if size < 0 {
		sign, size = "-", -size
	}
	form := "15:04"
	if size%60 > 0 {
		form = "15:04:05"
	}
	return text + sign + time.Unix(int64(size), 0).UTC().Format(form)
}

func momentModel(m moment.Moment) string {
	if !mayDateModel(m.Date) || !mayTimeModel(m.Time) {
		return ""
	}
	return dateModel(m.Date) + "T" + timeModel(m.Time)
}

// number is what digits tell, and more than all that may be, where they are many.
func number(digits string) int {
	n, ok := new(big.Int).SetString("0"+digits, 10)
	if !ok || n.BitLen() > 62 {
		return 1 << 62
	}
	return int(n.Int64())
}

var dateForm = regexp.MustCompile(`^(-?)([0-9]{4}|[1-9][0-9]{4,})-([0-9]{2})-([0-9]{2})$`)

func readDateModel(s string) (civil.Date, bool) {
	parts := dateForm.FindStringSubmatch(s)
	if parts == nil || parts[1] == "-" && parts[2] == "0000" {
		return civil.Date{}, false
	}
	d := day(number(parts[2]), number(parts[3]), number(parts[4]))
	if parts[1] == "-" {
		d.Year = -d.Year
	}
	if !mayDateModel(d) {
		return civil.Date{}, false
	}
	return d, true
}

var timeForm = regexp.MustCompile(`^([01][0-9]|2[0-3]):([0-5][0-9]):([0-5][0-9])(Z|([+-])([0-9]{2}):([0-5][0-9])(:[0-5][0-9])?)?$`)

func readTimeModel(s string) (clock.Time, bool) {
	parts := timeForm.FindStringSubmatch(s)
	if parts == nil {
		return clock.Time{}, false
	}
	t := plain(number(parts[1]), number(parts[2]), number(parts[3]))
	if parts[4] == "" {
		return t, true
	}
	t.Zoned = true
	if parts[4] == "Z" {
		return t, true
	}
	t.Offset = hms(number(parts[6]), number(parts[7]), number(strings.TrimPrefix(parts[8], ":")))
	if t.Offset == 0 || t.Offset > 64800 || parts[8] == ":00" {
		return clock.Time{}, false
	}
	if parts[5] == "-" {
		t.Offset = -t.Offset
	}
	return t, true
}

// readMomentModel tries each T as the one between the day and the time.
func readMomentModel(s string) (moment.Moment, bool) {
	for i := range s {
		if s[i] != 'T' {
			continue
		}
		d, okDay := readDateModel(s[:i])
		t, okTime := readTimeModel(s[i+1:])
		if okDay && okTime {
			return moment.Moment{Date: d, Time: t}, true
		}
	}
	return moment.Moment{}, false
}

func daysModel(n int) string {
	if n < -1<<53 || n > 1<<53 {
		return ""
	}
	if n == 0 {
		return "PT0S"
	}
	if n < 0 {
		return "-" + daysModel(-n)
	}
	text := fmt.Sprintf("P %dD T %dH %dM %dS", n/86400, n/3600%24, n/60%60, n%60)
	for _, none := range []string{" 0D", " 0H", " 0M", " 0S"} {
		text = strings.ReplaceAll(text, none, "")
	}
	return strings.TrimSuffix(strings.ReplaceAll(text, " ", ""), "T")
}

func monthsModel(n int) string {
	if n < -1<<53 || n > 1<<53 {
		return ""
	}
	if n == 0 {
		return "P0M"
	}
	if n < 0 {
		return "-" + monthsModel(-n)
	}
	text := fmt.Sprintf("P %dY %dM", n/12, n%12)
	return strings.ReplaceAll(strings.ReplaceAll(strings.ReplaceAll(text, " 0Y", ""), " 0M", ""), " ", "")
}

var (
	daysForm   = regexp.MustCompile(`^(-?)P(?:([0-9]{1,12})D)?(T(?:([0-9]{1,12})H)?(?:([0-9]{1,12})M)?(?:([0-9]{1,12})S)?)?$`)
	monthsForm = regexp.MustCompile(`^(-?)P(?:([0-9]{1,15})Y)?(?:([0-9]{1,15})M)?$`)
)

func readDaysModel(s string) (int, bool) {
	parts := daysForm.FindStringSubmatch(s)
	if parts == nil || parts[3] == "T" || parts[2]+parts[3] == "" {
		return 0, false
	}
	return summed(parts[1], []string{parts[2], parts[4], parts[5], parts[6]}, []int64{86400, 3600, 60, 1})
}

func readMonthsModel(s string) (int, bool) {
	parts := monthsForm.FindStringSubmatch(s)
	if parts == nil || parts[2]+parts[3] == "" {
		return 0, false
	}
	return summed(parts[1], parts[2:], []int64{12, 1})
}

func summed(sign string, digits []string, sizes []int64) (int, bool) {
	all := new(big.Int)
	for i, text := range digits {
		n, _ := new(big.Int).SetString("0"+text, 10)
		all.Add(all, n.Mul(n, big.NewInt(sizes[i])))
	}
	if all.Cmp(big.NewInt(1<<53)) > 0 {
		return 0, false
	}
	if sign == "-" {
		all.Neg(all)
	}
	return int(all.Int64()), true
}

func checkReadDate(t *testing.T, s string) {
	t.Helper()
	got, ok := lexical.ReadDate(s)
	if want, may := readDateModel(s); got != want || ok != may {
		t.Errorf("ReadDate(%q) = %v, %v, not %v, %v", s, got, ok, want, may)
	}
}

func checkReadTime(t *testing.T, s string) {
	t.Helper()
	got, ok := lexical.ReadTime(s)
	if want, may := readTimeModel(s); got != want || ok != may {
		t.Errorf("ReadTime(%q) = %v, %v, not %v, %v", s, got, ok, want, may)
	}
}

func checkReadMoment(t *testing.T, s string) {
	t.Helper()
	got, ok := lexical.ReadMoment(s)
	if want, may := readMomentModel(s); got != want || ok != may {
		t.Errorf("ReadMoment(%q) = %v, %v, not %v, %v", s, got, ok, want, may)
	}
}

func checkReadDays(t *testing.T, s string) {
	t.Helper()
	got, ok := lexical.ReadDays(s)
	if want, may := readDaysModel(s); got != want || ok != may {
		t.Errorf("ReadDays(%q) = %d, %v, not %d, %v", s, got, ok, want, may)
	}
}

func checkReadMonths(t *testing.T, s string) {
	t.Helper()
	got, ok := lexical.ReadMonths(s)
	if want, may := readMonthsModel(s); got != want || ok != may {
		t.Errorf("ReadMonths(%q) = %d, %v, not %d, %v", s, got, ok, want, may)
	}
}

// checkReadAll holds what each reading says of one text against the models.
func checkReadAll(t *testing.T, s string) {
	t.Helper()
	checkReadDate(t, s)
	checkReadTime(t, s)
	checkReadMoment(t, s)
	checkReadDays(t, s)
	checkReadMonths(t, s)
}

// checkNothing holds that a text is none's at all.
func checkNothing(t *testing.T, s string) {
	t.Helper()
	if d, ok := lexical.ReadDate(s); d != (civil.Date{}) || ok {
		t.Errorf("ReadDate(%.80q) = %v, %v", s, d, ok)
	}
	if x, ok := lexical.ReadTime(s); x != (clock.Time{}) || ok {
		t.Errorf("ReadTime(%.80q) = %v, %v", s, x, ok)
	}
	if m, ok := lexical.ReadMoment(s); m != (moment.Moment{}) || ok {
		t.Errorf("ReadMoment(%.80q) = %v, %v", s, m, ok)
	}
	if n, ok := lexical.ReadDays(s); n != 0 || ok {
		t.Errorf("ReadDays(%.80q) = %v, %v", s, n, ok)
	}
	if n, ok := lexical.ReadMonths(s); n != 0 || ok {
		t.Errorf("ReadMonths(%.80q) = %v, %v", s, n, ok)
	}
}

// signs are what may stand in a text, and what may not.
func signs() []string {
	return []string{"0", "1", "2", "3", "5", "9", "-", "+", "/", ":", ".", "T", "Z", "P", "D", "H", "M", "S", "Y", "W", "t", "z", "p", "d", "s", " ", "\t", "\n", "\x00", "\xff", "\xc3", "\u0663", "\uff12", "\u2212", "\u00e9", "\U0001d7d8", "00", "--"}
}

// near is all texts that one sign more, less or another makes of a text.
func near(s string) []string {
	out := []string{s}
	for i := 0; i <= len(s); i++ {
		for _, x := range signs() {
			out = append(out, s[:i]+x+s[i:])
			if i < len(s) {
				out = append(out, s[:i]+x+s[i+1:])
			}
		}
		if i < len(s) {
			out = append(out, s[:i]+s[i+1:])
		}
		if i+1 < len(s) {
			out = append(out, s[:i]+s[i+1:i+2]+s[i:i+1]+s[i+2:])
		}
		out = append(out, s[:i], s[i:], s[:i]+s[:i], s[:i]+s)
	}
	return out
}

// changed is a text with one sign more, less or another somewhere.
func changed(r *rand.Rand, s string) string {
	i, x := r.Intn(len(s)+1), signs()[r.Intn(len(signs()))]
	after := min(len(s), i+1)
	switch r.Intn(4) {
	case 0:
		return s[:i] + x + s[i:]
	case 1:
		return s[:i] + s[after:]
	case 2:
		return s[:i] + s[i:after] + s[i:]
	}
	return s[:i] + x + s[after:]
}

// edgeDays are days at an edge, with years of one to nine digits, below 0 too.
func edgeDays() []civil.Date {
	out := []civil.Date{day(0, 1, 1), day(0, 2, 29), day(0, 12, 31), day(-999999999, 1, 1), day(999999999, 12, 31), day(2024, 2, 29), day(2023, 2, 28), day(-4, 2, 29), day(-44, 3, 15)}
	for size := 1; size <= 999999999; size = size*10 + 1 {
		for _, y := range []int{size, size * 2, size * 9} {
			out = append(out, day(y, 1, 1), day(-y, 1, 1), day(y, 10, 30), day(-y, 12, 31), day(y, 9, 9), day(-y, 11, 10))
		}
	}
	for size := 1; size <= 100000000; size *= 10 {
		out = append(out, day(size, 6, 15), day(-size, 6, 15), day(size-1, 6, 15), day(1-size, 6, 15))
	}
	return out
}

// edgeOffsets are offsets of whole hours, of minutes and of seconds, on both sides of 0, and the greatest ones.
func edgeOffsets() []int {
	var out []int
	for _, n := range []int{1, 9, 10, 15, 59, 60, 61, 540, 599, 600, 1800, 3599, 3600, 3601, 3660, 3661, 7200, 19800, 20700, 32400, 35999, 36000, 50400, 64740, 64741, 64799, 64800} {
		out = append(out, n, -n)
	}
	return append(out, 0)
}

// edgeTimes are times at an edge, of no place and at each of these offsets.
func edgeTimes() []clock.Time {
	var out []clock.Time
	for _, sec := range []int{0, 1, 9, 10, 59, 60, 61, 599, 600, 3599, 3600, 3661, 35999, 36000, 43200, 45296, 72000, 86340, 86399} {
		out = append(out, clock.Time{Sec: sec})
		for _, offset := range edgeOffsets() {
			out = append(out, clock.Time{Sec: sec, Zoned: true, Offset: offset})
		}
	}
	return out
}

// noDays are days that there are not.
func noDays() []civil.Date {
	return []civil.Date{
		{}, day(2023, 2, 29), day(2024, 2, 30), day(1900, 2, 29), day(2024, 4, 31), day(2024, 1, 32), day(2024, 1, 0), day(2024, 1, -1), day(2024, 0, 1), day(2024, 13, 1), day(2024, -1, 1), day(2024, 12, 100), day(2024, 100, 1),
		day(1000000000, 1, 1), day(-1000000000, 12, 31), day(math.MaxInt, 1, 1), day(math.MinInt, 1, 1), day(2024, math.MaxInt, 1), day(2024, math.MinInt, 1), day(2024, 1, math.MaxInt), day(2024, 1, math.MinInt),
	}
}

// noTimes are times that may not be: for their seconds, or for their offset.
func noTimes() []clock.Time {
	var out []clock.Time
	for _, sec := range []int{-1, 86400, 90000, math.MinInt, math.MaxInt} {
		out = append(out, clock.Time{Sec: sec}, clock.Time{Sec: sec, Zoned: true}, clock.Time{Sec: sec, Zoned: true, Offset: 3600})
	}
	for _, offset := range []int{-64801, 64801, -86400, 86400, math.MinInt, math.MaxInt} {
		out = append(out, clock.Time{Zoned: true, Offset: offset}, clock.Time{Sec: 86399, Zoned: true, Offset: offset})
	}
	for _, offset := range []int{-64800, -1, 1, 3600, 64800, math.MinInt, math.MaxInt} {
		out = append(out, clock.Time{Offset: offset}, clock.Time{Sec: 86399, Offset: offset})
	}
	return out
}

func someDay(r *rand.Rand) civil.Date {
	y := r.Intn(1000000000) >> r.Intn(30)
	if r.Intn(2) == 0 {
		y = -y
	}
	return day(y, 1+r.Intn(12), 1+r.Intn(28))
}

func someTime(r *rand.Rand) clock.Time {
	t := clock.Time{Sec: r.Intn(86400)}
	if r.Intn(3) != 0 {
		t.Zoned, t.Offset = true, r.Intn(2*64800+1)-64800
		if r.Intn(2) == 0 {
			t.Offset -= t.Offset % 60
		}
	}
	return t
}

// someSpan is a number of any length, and now and then of whole parts.
func someSpan(r *rand.Rand) int {
	n := r.Intn(1<<53+1) >> r.Intn(53)
	if r.Intn(3) == 0 {
		whole := []int{60, 3600, 86400, 12}[r.Intn(4)]
		n -= n % whole
	}
	if r.Intn(2) == 0 {
		n = -n
	}
	return n
}

// The limits that the tests of this package have written out.
func TestLimits(t *testing.T) {
	if api.MaxOffset != 64800 || api.MaxYear != 999999999 || api.MaxSpan != 1<<53 || clock.Day != 86400 {
		t.Error("the tests of this package are written for other limits")
	}
}
