package civil

import "casuist/api"

const (
	// cycle is how many years it takes till the leap years come again as they came, and cycleDays how many days these have.
	cycle     = 400
	cycleDays = 365*cycle + 97
	// thursday is the day of the week by whose year a week is counted.
	thursday = 4
)

// Number is how many days a day lies behind the first of January 1970; 0 and false, if there is no such day.
func Number(d Date) (int, bool) {
	if !d.May() {
		return 0, false
	}
	return yearStart(d.Year) + Yearday(d) - 1, true
}

// Of is the day of a number; false, if its year may not be.
func Of(n int) (Date, bool) {
	// Asked first: the product in yearOf goes round for numbers far beyond.
	if n < yearStart(-api.MaxYear) || n >= yearStart(api.MaxYear+1) {
		return Date{}, false
	}
	y := yearOf(n)
	m, day := 1, n-yearStart(y)+1
	for day > Length(y, m) {
		day -= Length(y, m)
		m++
	}
	return Date{Year: y, Month: m, Day: day}, true
}

// yearStart is the number of a year's first day.
func yearStart(y int) int { return 365*(y-1970) + leapsUpTo(y-1) - leapsUpTo(1969) }

// leapsUpTo is how many leap years there are from the year 1 up to y; below that, 0 less those behind y up to the year 0.
func leapsUpTo(y int) int {
	fours, _ := floorDiv(y, 4)
	hundreds, _ := floorDiv(y, 100)
	cycles, _ := floorDiv(y, cycle)
	return fours - hundreds + cycles
}

// yearOf is the year of a day's number.
func yearOf(n int) int {
	years, _ := floorDiv(n*cycle, cycleDays)
	y := 1970 + years
	// Years of the mean length begin at most some days off the true ones, so that it is this year or one beside it.
	switch {
	case n < yearStart(y):
		return y - 1
	case n >= yearStart(y+1):
		return y + 1
	}
	return y
}

// Weekday is 1 for Monday, to 7 for Sunday; 0, if there is no such day.
func Weekday(d Date) int {
	n, ok := Number(d)
	if !ok {
		return 0
	}
	// The day of the number 0 is a Thursday.
	_, behindMonday := floorDiv(n+thursday-1, 7)
	return behindMonday + 1
}

// Yearday is the day's number in its year, from 1 on; 0, if there is no such day.
func Yearday(d Date) int {
	if !d.May() {
		return 0
	}
	n := d.Day
	for m := 1; m < d.Month; m++ {
		n += Length(d.Year, m)
	}
	return n
}

// Week is the number of the week of a day: weeks begin on Mondays, the first one has the year's first Thursday; 0, if there is no such day.
func Week(d Date) int {
	if !d.May() {
		return 0
	}
	// The Thursday's year may be one that may not be: its length is known all the same.
	n := Yearday(d) + thursday - Weekday(d)
	if n < 1 {
		n += yearLength(d.Year - 1)
	} else if n > yearLength(d.Year) {
		n -= yearLength(d.Year)
	}
	return (n-1)/7 + 1
}
