package span

import (
	"casuist/civil"
	"casuist/moment"
)

// midnight is a day's beginning, of no place.
func midnight(d civil.Date) moment.Moment { return moment.Moment{Date: d} }

// DateLater is the day of the moment so many seconds behind a day's midnight; false, if there is none, or n is too long.
func DateLater(d civil.Date, n int) (civil.Date, bool) {
	m, ok := moment.Later(midnight(d), n)
	return m.Date, ok
}

// DatesBetween is how many seconds b's midnight is behind a's; false, if there is no such day.
func DatesBetween(a, b civil.Date) (int, bool) {
	return moment.Between(midnight(a), midnight(b))
}

// MonthsBetween is how many whole months b is behind a; false, if there is no such day.
func MonthsBetween(a, b civil.Date) (int, bool) {
	return moment.MonthsBetween(midnight(a), midnight(b))
}
