package moment

import "cmp"

// Cmp is -1, 0 or 1: which one is ahead; false, if one alone has an offset, or there is none such.
func Cmp(a, b Moment) (int, bool) {
	n, ok := Between(a, b)
	return cmp.Compare(0, n), ok
}

// Between is how many seconds b is behind a; false likewise.
func Between(a, b Moment) (int, bool) {
	from, okA := Instant(a)
	to, okB := Instant(b)
	if !okA || !okB || a.Time.Zoned != b.Time.Zoned {
		return 0, false
	}
	return to - from, true
}

// MonthsBetween is how many whole months b is behind a: of b ahead of a 0 less those from b to a; false likewise.
func MonthsBetween(a, b Moment) (int, bool) {
	n, ok := Between(a, b)
	if !ok {
		return 0, false
	}
	if n < 0 {
		months, ok := monthsBehind(b, a)
		return -months, ok
	}
	return monthsBehind(a, b)
}

// monthsBehind is how many whole months b is behind a, where it is not ahead of it; false, if b may not be at a's offset.
func monthsBehind(a, b Moment) (int, bool) {
	instant, _ := Instant(b)
	there, ok := Of(instant, a.Time)
	if !ok {
		return 0, false
	}
	months := (there.Date.Year-a.Date.Year)*12 + there.Date.Month - a.Date.Month
	if aheadInMonth(there, a) {
		months--
	}
	return months, true
}

// aheadInMonth tells whether a's day and time would be ahead of b's, if both were of one month.
func aheadInMonth(a, b Moment) bool {
	if a.Date.Day != b.Date.Day {
		return a.Date.Day < b.Date.Day
	}
	return a.Time.Sec < b.Time.Sec
}
