package clock

import "cmp"

// Later is a time so many seconds later, of whatever day, and by how many days that is another one.
func Later(t Time, n int) (Time, int) {
	if !t.May() {
		return Time{}, 0
	}
	// The whole days are taken off first: the sum of n and the time's seconds would go round at the ends of int.
	days := n / Day
	t.Sec += n % Day
	switch {
	case t.Sec < 0:
		t.Sec += Day
		days--
	case t.Sec >= Day:
		t.Sec -= Day
		days++
	}
	return t, days
}

// Between is how many seconds b is behind a, by Greenwich; false, if one alone has an offset, or may not be.
func Between(a, b Time) (int, bool) {
	if !a.May() || !b.May() || a.Zoned != b.Zoned {
		return 0, false
	}
	// Where neither is Zoned, both offsets are 0.
	return (b.Sec - b.Offset) - (a.Sec - a.Offset), true
}

// Cmp is -1, 0 or 1: which one is ahead, by Greenwich; false, if one alone has an offset, or may not be.
func Cmp(a, b Time) (int, bool) {
	n, ok := Between(a, b)
	return cmp.Compare(0, n), ok
}
