package lexical

import (
	"slices"
	"strconv"
	"strings"

	"casuist/api"
	"casuist/clock"
)

const (
	// year is how many months a year has.
	year = 12
	// mostDigitsOfDays and mostDigitsOfMonths are how many digits one number of a duration's text may have. No sum of such goes round.
	mostDigitsOfDays   = 12
	mostDigitsOfMonths = 15
)

// unit is a letter of a duration's text, and how much one of it is.
type unit struct {
	letter rune
	size   int
}

// Days is the text of a duration of so many seconds: days, and behind a T hours, minutes and seconds, each if it is not 0; PT0S of none; "" if there is none such.
func Days(n int) string {
	if !maySpan(n) {
		return ""
	}
	if n == 0 {
		return "PT0S"
	}
	sign, size := split(n)
	rest := size % clock.Day
	time := part(rest/hour, "H") + part(rest%hour/minute, "M") + part(rest%minute, "S")
	if time != "" {
		time = "T" + time
	}
	return sign + "P" + part(size/clock.Day, "D") + time
}

// Months is the text of a duration of so many months: years and months, each if it is not 0; P0M of none; "" if there is none such.
func Months(n int) string {
	if !maySpan(n) {
		return ""
	}
	if n == 0 {
		return "P0M"
	}
	sign, size := split(n)
	return sign + "P" + part(size/year, "Y") + part(size%year, "M")
}

// ReadDays is the seconds of a duration's text: P, days, and behind a T hours, minutes and seconds, at least one of all, each of one to twelve digits, and at least one behind a T; a - may stand ahead; false, if it is none's, or too long.
func ReadDays(s string) (int, bool) {
	s, below, ok := body(s)
	day, time, timed := strings.Cut(s, "T")
	if !ok || time == "" && (timed || day == "") {
		return 0, false
	}
	days, okDays := sum(day, mostDigitsOfDays, unit{'D', clock.Day})
	secs, okSecs := sum(time, mostDigitsOfDays, unit{'H', hour}, unit{'M', minute}, unit{'S', 1})
	if !okDays || !okSecs {
		return 0, false
	}
	return signed(days+secs, below)
}

// ReadMonths is the months of a duration's text: P, years, months, at least one of both, each of one to fifteen digits; a - may stand ahead; false, if it is none's, or too long.
func ReadMonths(s string) (int, bool) {
	s, below, ok := body(s)
	if !ok || s == "" {
		return 0, false
	}
	months, ok := sum(s, mostDigitsOfMonths, unit{'Y', year}, unit{'M', 1})
	if !ok {
		return 0, false
	}
	return signed(months, below)
}

func maySpan(n int) bool { return n >= -api.MaxSpan && n <= api.MaxSpan }

// part is a number and its letter; nothing, if it is 0.
func part(n int, letter string) string {
	if n == 0 {
		return ""
	}
	return strconv.Itoa(n) + letter
}

// body is what a duration's text has behind its P, and whether a - stands ahead of that; false, if it has no P.
func body(s string) (string, bool, bool) {
	s, below := strings.CutPrefix(s, "-")
	s, ok := strings.CutPrefix(s, "P")
	return s, below, ok
}

// sum is what numbers, each with its letter behind it, come to: of each unit one at most, in their order; false, if that is not all that the text has.
func sum(s string, mostDigits int, units ...unit) (int, bool) {
	all, number, digits := 0, 0, 0
	for _, r := range s {
		if digit(r) && digits < mostDigits {
			number = number*10 + int(r-'0')
			digits++
			continue
		}
		// One digit too many is no unit's letter either.
		i := slices.IndexFunc(units, func(u unit) bool { return u.letter == r })
		if i < 0 || digits == 0 {
			return 0, false
		}
		all += number * units[i].size
		number, digits, units = 0, 0, units[i+1:]
	}
	if digits != 0 {
		return 0, false
	}
	return all, true
}

// signed is a duration of that size, or as much below 0; false, if it is too long.
func signed(n int, below bool) (int, bool) {
	if n > api.MaxSpan {
		return 0, false
	}
	if below {
		return -n, true
	}
	return n, true
}
