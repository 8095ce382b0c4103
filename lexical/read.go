package lexical

import (
	"strings"

	"casuist/civil"
	"casuist/clock"
	"casuist/moment"
)

// mostNumbers is how many numbers the longest of a day's and a time's text has: a time's, with its offset's seconds.
const mostNumbers = 6

// ReadDate is the day of a text; false, if it is not Date's of one.
func ReadDate(s string) (civil.Date, bool) {
	n := numbers(s)
	d := civil.Date{Year: n[0], Month: n[1], Day: n[2]}
	if strings.HasPrefix(s, "-") {
		d.Year = -d.Year
	}
	if !d.May() || Date(d) != s {
		return civil.Date{}, false
	}
	return d, true
}

// ReadTime is the time of a text; false, if it is not Time's of one.
func ReadTime(s string) (clock.Time, bool) {
	n := numbers(s)
	t, ok := clock.Of(n[0], n[1], n[2])
	if ok && len(s) > len("00:00:00") {
		// Of a Z there are no numbers, and so they come to 0.
		ahead := n[3]*hour + n[4]*minute + n[5]
		if strings.Contains(s, "-") {
			ahead = -ahead
		}
		t, ok = clock.At(t, ahead)
	}
	if !ok || Time(t) != s {
		return clock.Time{}, false
	}
	return t, true
}

// ReadMoment is the moment of a text; false, if it is not Moment's of one.
func ReadMoment(s string) (moment.Moment, bool) {
	// Of a text without a T, that of the time is left empty, which is none's.
	day, rest, _ := strings.Cut(s, "T")
	date, okDate := ReadDate(day)
	time, okTime := ReadTime(rest)
	if !okDate || !okTime {
		return moment.Moment{}, false
	}
	return moment.Moment{Date: date, Time: time}, true
}

// numbers is the first numbers of a text, and 0 for those that it has not. What stands between them is passed over, and one that is too great goes round: each thing has one text, so who asks holds that one against this.
func numbers(s string) [mostNumbers]int {
	var out [mostNumbers]int
	at, inside := -1, false
	for _, r := range s {
		if !digit(r) {
			inside = false
			continue
		}
		if !inside {
			at++
		}
		if at == mostNumbers {
			break
		}
		out[at] = out[at]*10 + int(r-'0')
		inside = true
	}
	return out
}

// digit tells whether a rune is one of 0 to 9: no other script's are taken.
func digit(r rune) bool { return r >= '0' && r <= '9' }
