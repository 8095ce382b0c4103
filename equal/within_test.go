package equal_test

import (
	"math/rand"
	"testing"

	"casuist/api"
	"casuist/equal"
	"casuist/value"
)

func checkWithin(t *testing.T, v, r thing, want api.Truth) {
	t.Helper()
	if got := equal.Within(v.made(), r.made()); got != want {
		t.Errorf("Within(%.100v, %.100v) = %d, not %d", v, r, got, want)
	}
}

// Of each row the ends, and what lies at each, beside it, between, told in each way that there is.
func TestP124Rows(t *testing.T) {
	for _, of := range rows() {
		lo, hi := len(of)/4, len(of)-2
		for i, group := range of {
			for _, v := range group {
				for _, first := range of[lo] {
					for _, last := range of[hi] {
						checkWithin(t, v, span(first, last, "[]"), yesIf(i >= lo && i <= hi))
						checkWithin(t, v, span(first, last, "[)"), yesIf(i >= lo && i < hi))
						checkWithin(t, v, span(first, last, "(]"), yesIf(i > lo && i <= hi))
						checkWithin(t, v, span(first, last, "()"), yesIf(i > lo && i < hi))
						// No value lies within a range that goes back.
						checkWithin(t, v, span(last, first, "[]"), api.No)
					}
					checkWithin(t, v, span(first, null(), "[]"), yesIf(i >= lo))
					checkWithin(t, v, span(first, null(), "(]"), yesIf(i > lo))
					checkWithin(t, v, span(null(), first, "[]"), yesIf(i <= lo))
					checkWithin(t, v, span(null(), first, "[)"), yesIf(i < lo))
					checkWithin(t, v, span(first, first, "[]"), yesIf(i == lo))
					checkWithin(t, v, span(first, first, "[)"), api.No)
					checkWithin(t, v, span(first, first, "()"), api.No)
				}
				checkWithin(t, v, span(null(), null(), "[]"), api.Unknown)
			}
		}
	}
}

func TestP124ByHand(t *testing.T) {
	one, three, five := whole(1), whole(3), whole(5)
	checkWithin(t, five, span(one, five, "[)"), api.No)
	checkWithin(t, five, span(one, five, "[]"), api.Yes)
	checkWithin(t, num("50", -1), span(one, five, "[]"), api.Yes)
	checkWithin(t, num("500000000000000000000000000000001", -32), span(one, five, "[]"), api.No)
	checkWithin(t, one, span(one, five, "(]"), api.No)
	checkWithin(t, one, span(one, five, "[]"), api.Yes)
	checkWithin(t, three, span(one, five, "()"), api.Yes)
	checkWithin(t, three, span(five, one, "[]"), api.No)
	checkWithin(t, whole(-9), span(null(), five, "()"), api.Yes)
	checkWithin(t, whole(9), span(one, null(), "()"), api.Yes)
	checkWithin(t, text("ab"), span(text("a"), text("b"), "[]"), api.Yes)
	checkWithin(t, text("ba"), span(text("a"), text("b"), "[]"), api.No)
}

func TestP124NoRange(t *testing.T) {
	for _, r := range few() {
		if r.kind == api.Range {
			continue
		}
		for _, v := range []thing{null(), whole(1), text("a"), boolean(true), r, list(r)} {
			checkWithin(t, v, r, api.Unknown)
		}
	}
	checkWithin(t, whole(1), list(whole(1), whole(2)), api.Unknown)
	checkWithin(t, whole(1), list(span(whole(1), whole(2), "[]")), api.Unknown)
	if got := equal.Within(value.Value{}, value.Value{}); got != api.Unknown {
		t.Error(got)
	}
	if got := equal.Within(value.Int(1), value.Range(value.Int(1), value.Text("a"), [2]bool{true, true})); got != api.Unknown {
		t.Error("within what is no range:", got)
	}
}

func TestP124UnlikeKinds(t *testing.T) {
	ranges := []thing{span(whole(1), whole(5), "[]"), span(whole(1), null(), "()"), span(null(), whole(5), "(]"), span(whole(5), whole(1), "()")}
	for _, v := range append(few(), ranges...) {
		for _, r := range ranges {
			if v.kind != api.Number {
				checkWithin(t, v, r, api.Unknown)
			}
		}
		checkWithin(t, v, span(null(), null(), "()"), api.Unknown)
	}
	// A null that is asked for is not an open end.
	checkWithin(t, null(), span(whole(1), null(), "[)"), api.Unknown)
	checkWithin(t, null(), span(null(), whole(1), "(]"), api.Unknown)
	checkWithin(t, days(1), span(months(0), months(2), "[]"), api.Unknown)
	checkWithin(t, date(2024, 1, 1), span(clockTime(0).of(2023, 1, 1), clockTime(0).of(2025, 1, 1), "[]"), api.Unknown)
}

// A range's ends may be of a place and of none: one of them alone can be held against a time then.
func TestP124UnlikeOffsets(t *testing.T) {
	mixed := span(clockTime(100), clockAt(200, 0), "[]")
	checkWithin(t, clockTime(99), mixed, api.No)
	checkWithin(t, clockTime(100), mixed, api.Unknown)
	checkWithin(t, clockTime(300), mixed, api.Unknown)
	checkWithin(t, clockAt(201, 0), mixed, api.No)
	checkWithin(t, clockAt(200, 0), mixed, api.Unknown)
	checkWithin(t, clockAt(0, 0), mixed, api.Unknown)
	plain := span(clockTime(0).of(2024, 1, 1), clockTime(0).of(2025, 1, 1), "[]")
	checkWithin(t, clockAt(0, 0).of(2024, 6, 1), plain, api.Unknown)
	checkWithin(t, clockAt(0, 0).of(2030, 6, 1), plain, api.Unknown)
	checkWithin(t, clockTime(0).of(2024, 6, 1), plain, api.Yes)
}

func TestP124ByTheWords(t *testing.T) {
	all := rows()
	r := rand.New(rand.NewSource(124))
	for range 20000 {
		s := someRange(r)
		checkPair(t, someThing(r, 1), s)
		of := pick(r, all)
		checkPair(t, someEnd(r, of), span(someEnd(r, of), someEnd(r, of), pick(r, []string{"[]", "[)", "(]", "()"})))
	}
}

func TestP124Among(t *testing.T) {
	one, two, a, nothing := whole(1), whole(2), text("a"), null()
	f := function("code", 1)
	for _, x := range []struct {
		v    thing
		vs   []thing
		want api.Truth
	}{
		{one, nil, api.No},
		{one, []thing{}, api.No},
		{nothing, nil, api.No},
		{one, []thing{one}, api.Yes},
		{one, []thing{num("10", -1)}, api.Yes},
		{one, []thing{two}, api.No},
		{one, []thing{nothing}, api.No},
		{nothing, []thing{nothing}, api.Yes},
		{nothing, []thing{one, a}, api.No},
		{nothing, []thing{one, nothing, f}, api.Yes},
		// One that is the same tells more than one that is not known, wherever it stands.
		{one, []thing{a}, api.Unknown},
		{one, []thing{a, one}, api.Yes},
		{one, []thing{one, a}, api.Yes},
		{one, []thing{a, one, a}, api.Yes},
		{one, []thing{a, two}, api.Unknown},
		{one, []thing{two, a}, api.Unknown},
		{one, []thing{two, a, nothing}, api.Unknown},
		{one, []thing{nothing, two, one}, api.Yes},
		{one, []thing{nothing, two, two}, api.No},
		{one, []thing{list(one)}, api.Unknown},
		{one, []thing{span(one, two, "[]")}, api.Unknown},
		{list(one), []thing{one, list(two), list(one)}, api.Yes},
		{list(), []thing{list(one), nothing, list()}, api.Yes},
		{list(one, a), []thing{list(one, one), list(one)}, api.Unknown},
		{list(one, a), []thing{list(two, one), list(one)}, api.No},
		{f, []thing{f}, api.Unknown},
		{f, []thing{nothing}, api.No},
		{f, nil, api.No},
		{clockTime(0), []thing{clockAt(0, 0), clockTime(1)}, api.Unknown},
		{boolean(false), []thing{boolean(true), boolean(true)}, api.No},
	} {
		if got := equal.Among(x.v.made(), madeAll(x.vs)); got != x.want {
			t.Errorf("Among(%v, %v) = %d, not %d", x.v, x.vs, got, x.want)
		}
	}
	if equal.Among(value.Value{}, nil) != api.No || equal.Among(value.Value{}, make([]value.Value, 3)) != api.Yes {
		t.Error("null among none, or among nulls")
	}
}

func TestP124AmongMany(t *testing.T) {
	const n = 1 << 17
	vs := make([]value.Value, n)
	for i := range vs {
		vs[i] = value.Int(i)
	}
	if got := equal.Among(value.Int(n), vs); got != api.No {
		t.Error(got)
	}
	if got := equal.Among(value.Int(n-1), vs); got != api.Yes {
		t.Error(got)
	}
	vs[0] = value.Bool(true)
	if got := equal.Among(value.Int(n), vs); got != api.Unknown {
		t.Error(got)
	}
	if got := equal.Among(value.Int(n-1), vs); got != api.Yes {
		t.Error(got)
	}
}

func TestP124AmongChangesNothing(t *testing.T) {
	vs := append(make([]value.Value, 0, 8), value.Int(3), value.Int(1), value.Int(2))
	equal.Among(value.Int(2), vs)
	equal.Among(value.Int(9), vs)
	for i, want := range []int{3, 1, 2} {
		if n, ok := vs[i].AsInt(); n != want || !ok {
			t.Error(i, n, ok)
		}
	}
	for i, v := range vs[3:cap(vs)] {
		if !v.Null() {
			t.Error("something was put behind the values:", i)
		}
	}
}

func TestP124AmongByTheWords(t *testing.T) {
	r := rand.New(rand.NewSource(1240))
	var seen [3]int
	for range 10000 {
		v := someThing(r, 2)
		var vs []thing
		for range r.Intn(4) {
			x := alike(r, v)
			if r.Intn(2) == 0 {
				x = someThing(r, 1)
			}
			vs = append(vs, x)
		}
		want := amongModel(v, vs)
		seen[want]++
		if got := equal.Among(v.made(), madeAll(vs)); got != want {
			t.Errorf("Among(%v, %v) = %d, not %d", v, vs, got, want)
		}
	}
	if min(seen[0], seen[1], seen[2]) < 1000 {
		t.Error("too few of one truth:", seen)
	}
}
