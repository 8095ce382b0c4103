package equal

import (
	"cmp"

	"casuist/api"
	"casuist/civil"
	"casuist/clock"
	"casuist/dec"
	"casuist/moment"
	"casuist/value"
)

// Cmp is -1, 0 or 1: which of two values is less; false, if they can't be held against one another.
func Cmp(a, b value.Value) (int, bool) {
	if a.Kind() != b.Kind() {
		return 0, false
	}
	switch a.Kind() {
	case api.Number:
		x, _ := a.AsNum()
		y, _ := b.AsNum()
		return dec.Cmp(x, y), true
	case api.String:
		x, _ := a.AsText()
		y, _ := b.AsText()
		return cmp.Compare(x, y), true
	case api.Date:
		x, _ := a.AsDate()
		y, _ := b.AsDate()
		return civil.Cmp(x, y), true
	case api.Time:
		x, _ := a.AsTime()
		y, _ := b.AsTime()
		return clock.Cmp(x, y)
	case api.DateTime:
		x, _ := a.AsMoment()
		y, _ := b.AsMoment()
		return moment.Cmp(x, y)
	case api.Days:
		x, _ := a.AsDays()
		y, _ := b.AsDays()
		return cmp.Compare(x, y), true
	case api.Months:
		x, _ := a.AsMonths()
		y, _ := b.AsMonths()
		return cmp.Compare(x, y), true
	}
	return 0, false
}

// Less tells whether a is less than b; LessOr whether it is that or the same.
func Less(a, b value.Value) api.Truth {
	c, ok := Cmp(a, b)
	return known(c < 0, ok)
}

func LessOr(a, b value.Value) api.Truth {
	c, ok := Cmp(a, b)
	return known(c <= 0, ok)
}

// Within tells whether a value lies in a range.
func Within(v, r value.Value) api.Truth {
	ends, in, ok := r.AsRange()
	if !ok || ends[0].Null() && ends[1].Null() {
		return api.Unknown
	}
	// Only an end that is null is passed over: where v is null, nothing is known of it.
	all := api.Yes
	if !ends[0].Null() {
		all = And(all, inOrder(ends[0], v, in[0]))
	}
	if !ends[1].Null() {
		all = And(all, inOrder(v, ends[1], in[1]))
	}
	return all
}

// inOrder tells whether a is less than b, or, where they may touch, the same.
func inOrder(a, b value.Value, touch bool) api.Truth {
	if touch {
		return LessOr(a, b)
	}
	return Less(a, b)
}
