package civil_test

import (
	"math"
	"math/big"
	"math/rand"
	"testing"
	"time"

	"casuist/api"
	"casuist/civil"
)

// What the chapter's words say, done plainly, with package time for the calendar, for the tests to hold the package against.

const (
	firstNumber = -365243219162
	lastNumber  = 365241780471
)

func day(y, m, d int) civil.Date { return civil.Date{Year: y, Month: m, Day: d} }

func firstDay() civil.Date { return day(-999999999, 1, 1) }

func lastDay() civil.Date { return day(999999999, 12, 31) }

func leapModel(y int) bool {
	multiple := func(of int64) bool {
		return new(big.Int).Mod(big.NewInt(int64(y)), big.NewInt(of)).Sign() == 0
	}
	if multiple(400) {
		return true
	}
	return multiple(4) && !multiple(100)
}

func lengthModel(y, m int) int {
	if m < 1 || m > 12 {
		return 0
	}
	if m == 2 && leapModel(y) {
		return 29
	}
	return map[int]int{1: 31, 2: 28, 3: 31, 4: 30, 5: 31, 6: 30, 7: 31, 8: 31, 9: 30, 10: 31, 11: 30, 12: 31}[m]
}

func mayModel(d civil.Date) bool {
	if d.Year < -999999999 || d.Year > 999999999 {
		return false
	}
	return d.Day > 0 && d.Day <= lengthModel(d.Year, d.Month)
}

func timeOf(d civil.Date) time.Time {
	return time.Date(d.Year, time.Month(d.Month), d.Day, 0, 0, 0, 0, time.UTC)
}

func dateOf(t time.Time) civil.Date { return day(t.Year(), int(t.Month()), t.Day()) }

// weekdayModel is 1 to 7, where package time has Sundays first.
func weekdayModel(t time.Time) int { return (int(t.Weekday())+6)%7 + 1 }

// weekModel goes to the Thursday of the same week, and counts its year's weeks.
func weekModel(t time.Time) int {
	return (t.AddDate(0, 0, 4-weekdayModel(t)).YearDay()-1)/7 + 1
}

func monthsModel(d civil.Date, n int) (civil.Date, bool) {
	if !mayModel(d) || n < -1<<53 || n > 1<<53 {
		return civil.Date{}, false
	}
	all := new(big.Int).Mul(big.NewInt(int64(d.Year)), big.NewInt(12))
	all.Add(all, big.NewInt(int64(d.Month-1)))
	all.Add(all, big.NewInt(int64(n)))
	year, month := new(big.Int).DivMod(all, big.NewInt(12), new(big.Int))
	if year.CmpAbs(big.NewInt(999999999)) > 0 {
		return civil.Date{}, false
	}
	y, m := int(year.Int64()), int(month.Int64())+1
	return day(y, m, min(d.Day, lengthModel(y, m))), true
}

func cmpModel(a, b civil.Date) int {
	for _, x := range [][2]int{{a.Year, b.Year}, {a.Month, b.Month}, {a.Day, b.Day}} {
		if x[0] < x[1] {
			return -1
		}
		if x[0] > x[1] {
			return 1
		}
	}
	return 0
}

// checkNone holds that no call answers anything of what is no day.
func checkNone(t *testing.T, d civil.Date) {
	t.Helper()
	if d.May() {
		t.Errorf("%v: there is no such day", d)
	}
	if n, ok := civil.Number(d); n != 0 || ok {
		t.Errorf("Number(%v) = %d, %v", d, n, ok)
	}
	if n := civil.Weekday(d); n != 0 {
		t.Errorf("Weekday(%v) = %d", d, n)
	}
	if n := civil.Yearday(d); n != 0 {
		t.Errorf("Yearday(%v) = %d", d, n)
	}
	if n := civil.Week(d); n != 0 {
		t.Errorf("Week(%v) = %d", d, n)
	}
	for _, n := range []int{0, 1, -1, 12, -12, api.MaxSpan, -api.MaxSpan} {
		if got, ok := civil.Months(d, n); got != (civil.Date{}) || ok {
			t.Errorf("Months(%v, %d) = %v, %v", d, n, got, ok)
		}
	}
}

// checkDay holds what P6.1 and P6.2 say of a day, or of what is none, against the models.
func checkDay(t *testing.T, d civil.Date) {
	t.Helper()
	if !mayModel(d) {
		checkNone(t, d)
		return
	}
	if !d.May() {
		t.Errorf("%v: there is such a day", d)
	}
	at := timeOf(d)
	want := int(at.Unix() / 86400)
	if n, ok := civil.Number(d); n != want || !ok {
		t.Errorf("Number(%v) = %d, %v, not %d", d, n, ok, want)
	}
	if got, ok := civil.Of(want); got != d || !ok {
		t.Errorf("Of(%d) = %v, %v, not %v", want, got, ok, d)
	}
	if got, want := civil.Weekday(d), weekdayModel(at); got != want {
		t.Errorf("Weekday(%v) = %d, not %d", d, got, want)
	}
	if got, want := civil.Yearday(d), at.YearDay(); got != want {
		t.Errorf("Yearday(%v) = %d, not %d", d, got, want)
	}
	if got, want := civil.Week(d), weekModel(at); got != want {
		t.Errorf("Week(%v) = %d, not %d", d, got, want)
	}
}

func checkMonths(t *testing.T, d civil.Date, n int) {
	t.Helper()
	got, ok := civil.Months(d, n)
	if want, may := monthsModel(d, n); got != want || ok != may {
		t.Errorf("Months(%v, %d) = %v, %v, not %v, %v", d, n, got, ok, want, may)
	}
}

// edgeInts are numbers at an edge of something, the ends of int among them.
func edgeInts() []int {
	return []int{
		math.MinInt, math.MinInt + 1, -1 << 62, -api.MaxSpan - 1, -api.MaxSpan, -1 << 32, -1 << 31, -1000000001, -1000000000, -999999999, -400, -100, -13, -12, -4, -2, -1,
		0, 1, 2, 3, 4, 11, 12, 13, 27, 28, 29, 30, 31, 32, 100, 366, 400, 1900, 1970, 2000, 2024, 999999999, 1000000000, 1 << 31, 1 << 32, api.MaxSpan, api.MaxSpan + 1, 1 << 62, math.MaxInt - 1, math.MaxInt,
	}
}

// edgeYears are years that stand at an edge, with their neighbours.
func edgeYears() []int {
	var out []int
	for _, y := range []int{-999999999, -999999996, -999999900, -999999600, -2000, -400, -100, -4, 0, 4, 100, 400, 1600, 1900, 1970, 2000, 2024, 2100, 999999600, 999999900, 999999996, 999999999} {
		out = append(out, y-1, y, y+1)
	}
	return out
}

// someDay is a day: of any year, or of one not far from an edge.
func someDay(r *rand.Rand) civil.Date {
	y := r.Intn(2*api.MaxYear+1) - api.MaxYear
	if r.Intn(2) == 0 {
		years := edgeYears()
		y = years[r.Intn(len(years))] + r.Intn(21) - 10
		y = max(min(y, api.MaxYear), -api.MaxYear)
	}
	m := 1 + r.Intn(12)
	return day(y, m, 1+r.Intn(lengthModel(y, m)))
}

// The limits that the tests of this package have written out.
func TestLimits(t *testing.T) {
	if api.MaxYear != 999999999 || api.MaxSpan != 1<<53 {
		t.Error("the tests of this package are written for other limits")
	}
}
