package equal_test

import (
	"math/rand"
	"slices"
	"strconv"
	"testing"

	"casuist/api"
	"casuist/equal"
	"casuist/value"
)

// checkSame holds two values, each way round.
func checkSame(t *testing.T, x, y thing, want api.Truth) {
	t.Helper()
	a, b := x.made(), y.made()
	if got, back := equal.Same(a, b), equal.Same(b, a); got != want || back != want {
		t.Errorf("Same(%.100v, %.100v) = %d, and %d the other way round, not %d", x, y, got, back, want)
	}
}

func TestP123Null(t *testing.T) {
	checkSame(t, null(), null(), api.Yes)
	checkSame(t, thing{}, null(), api.Yes)
	for _, x := range few() {
		checkSame(t, null(), x, yesIf(x.null()))
		checkSame(t, thing{}, x, yesIf(x.null()))
	}
	// What may not be is null as well.
	if got := equal.Same(value.Text("\xff"), value.Days(most+1)); got != api.Yes {
		t.Error(got)
	}
}

func TestP123UnlikeKinds(t *testing.T) {
	for _, x := range few() {
		for _, y := range few() {
			if !x.null() && !y.null() && x.kind != y.kind {
				checkSame(t, x, y, api.Unknown)
			}
		}
	}
	checkSame(t, whole(1), text("1"), api.Unknown)
	checkSame(t, boolean(true), text("true"), api.Unknown)
	checkSame(t, boolean(false), whole(0), api.Unknown)
	checkSame(t, whole(1), list(whole(1)), api.Unknown)
	checkSame(t, days(0), months(0), api.Unknown)
	checkSame(t, list(), context(""), api.Unknown)
	checkSame(t, list(whole(1), whole(2)), span(whole(1), whole(2), "[]"), api.Unknown)
}

func TestP123Booleans(t *testing.T) {
	for _, a := range []bool{false, true} {
		for _, b := range []bool{false, true} {
			checkSame(t, boolean(a), boolean(b), yesIf(a == b))
		}
	}
}

func TestP123Rows(t *testing.T) {
	for _, r := range rows() {
		for i, group := range r {
			for j, other := range r {
				for _, x := range group {
					for _, y := range other {
						checkSame(t, x, y, yesIf(i == j))
					}
				}
			}
		}
	}
	for _, x := range plainTimes() {
		for _, y := range zonedTimes() {
			checkSame(t, x[0], y[0], api.Unknown)
		}
	}
	for _, x := range plainMoments() {
		for _, y := range zonedMoments() {
			checkSame(t, x[0], y[0], api.Unknown)
		}
	}
}

func TestP123Lists(t *testing.T) {
	one, two, a, nothing := whole(1), whole(2), text("a"), null()
	for _, x := range []struct {
		a, b thing
		want api.Truth
	}{
		{list(), list(), api.Yes},
		{list(), list(nothing), api.No},
		{list(nothing), list(nothing), api.Yes},
		{list(one), list(num("10", -1)), api.Yes},
		{list(one, two), list(one, two), api.Yes},
		{list(one, two), list(two, one), api.No},
		{list(one), list(one, two), api.No},
		{list(one, one), list(one), api.No},
		{list(one, nothing), list(one, two), api.No},
		{list(nothing, nothing), list(nothing), api.No},
		// What is unlike tells more than what is not known, wherever it stands.
		{list(one, a), list(one, two), api.Unknown},
		{list(a, one), list(one, one), api.Unknown},
		{list(one, a), list(two, two), api.No},
		{list(a, one), list(one, two), api.No},
		{list(a, one, a), list(one, two, one), api.No},
		{list(a, one, nothing), list(one, one, two), api.No},
		{list(one, a, one), list(one, one, one), api.Unknown},
		// Of unlike lengths nothing else is asked.
		{list(one, a), list(one, two, two), api.No},
		{list(a), list(one, one), api.No},
		{list(list()), list(list()), api.Yes},
		{list(list()), list(nothing), api.No},
		{list(list()), list(list(one)), api.No},
		{list(list(one), list(two)), list(list(one), list(two)), api.Yes},
		{list(list(one, two)), list(list(one), two), api.No},
		{list(list(a), two), list(list(one), two), api.Unknown},
		{list(list(a), two), list(list(one), one), api.No},
		{list(clockTime(0)), list(clockAt(0, 0)), api.Unknown},
		{list(clockTime(0), one), list(clockAt(0, 0), two), api.No},
		{list(boolean(true)), list(boolean(false)), api.No},
	} {
		checkSame(t, x.a, x.b, x.want)
		checkSame(t, list(x.a), list(x.b), x.want)
		checkSame(t, context("a", x.a), context("a", x.b), x.want)
	}
}

func TestP123Contexts(t *testing.T) {
	one, two, a, nothing := whole(1), whole(2), text("a"), null()
	for _, x := range []struct {
		a, b thing
		want api.Truth
	}{
		{context(""), context(""), api.Yes},
		{context(""), context("a", nothing), api.No},
		{context("a", one), context("a", one), api.Yes},
		{context("a", one), context("a", num("100", -2)), api.Yes},
		{context("a", one), context("a", two), api.No},
		{context("a", nothing), context("a", nothing), api.Yes},
		{context("a", nothing), context("a", one), api.No},
		{context("a", one), context("a", a), api.Unknown},
		// Another name.
		{context("a", one), context("b", one), api.No},
		{context("a", one), context("A", one), api.No},
		{context("a", nothing), context("b", nothing), api.No},
		{context("a", a), context("b", one), api.No},
		{context("a b", one, two), context("a c", one, two), api.No},
		{context("a b", a, two), context("a c", one, two), api.No},
		{context("b a", nothing, one), context("c a", nothing, one), api.No},
		// One name more.
		{context("a", one), context("a b", one, nothing), api.No},
		{context("b", one), context("a b", one, one), api.No},
		{context("a", one), context("a b", a, two), api.No},
		{context("a b c", one, one, one), context("a b", one, one), api.No},
		// The names in another order: it is by names that things are held, not by places.
		{context("a b", one, two), context("b a", two, one), api.Yes},
		{context("a b", one, two), context("b a", one, two), api.No},
		{context("a b c", one, two, nothing), context("c a b", nothing, one, two), api.Yes},
		{context("a b", one, a), context("b a", two, one), api.Unknown},
		{context("a b", one, a), context("b a", a, one), api.Yes},
		{context("a b", a, one), context("a b", one, two), api.No},
		{context("a b", a, one), context("b a", two, one), api.No},
		{context("a b", a, one), context("b a", one, two), api.Unknown},
		{context("a", context("b", one)), context("a", context("b", one)), api.Yes},
		{context("a", context("b", one)), context("a", context("c", one)), api.No},
		{context("a", list(one, a)), context("a", list(one, two)), api.Unknown},
		{context("a", clockTime(0)), context("a", clockAt(0, 0)), api.Unknown},
	} {
		checkSame(t, x.a, x.b, x.want)
		checkSame(t, list(x.a), list(x.b), x.want)
		checkSame(t, context("a", x.a), context("a", x.b), x.want)
	}
	empty := thing{kind: api.Context, names: []string{""}, items: []thing{one}}
	blank := thing{kind: api.Context, names: []string{" "}, items: []thing{one}}
	checkSame(t, empty, empty, api.Yes)
	checkSame(t, empty, blank, api.No)
	checkSame(t, empty, context(""), api.No)
}

func TestP123Ranges(t *testing.T) {
	one, two, three, a, b, open := whole(1), whole(2), whole(3), text("a"), text("b"), null()
	early, late, zoned, later := clockTime(0), clockTime(1), clockAt(0, 0), clockAt(1, 0)
	for _, x := range []struct {
		a, b thing
		want api.Truth
	}{
		{span(one, two, "[]"), span(one, two, "[]"), api.Yes},
		{span(one, two, "[]"), span(num("10", -1), num("200", -2), "[]"), api.Yes},
		{span(one, two, "[]"), span(one, three, "[]"), api.No},
		{span(one, two, "[]"), span(three, two, "[]"), api.No},
		{span(one, two, "[]"), span(two, one, "[]"), api.No},
		// One end belongs to one alone.
		{span(one, two, "[]"), span(one, two, "(]"), api.No},
		{span(one, two, "[]"), span(one, two, "[)"), api.No},
		{span(one, two, "[)"), span(one, two, "(]"), api.No},
		{span(one, two, "[]"), span(one, two, "()"), api.No},
		{span(one, two, "()"), span(one, two, "()"), api.Yes},
		{span(one, two, "(]"), span(one, two, "(]"), api.Yes},
		{span(one, one, "[]"), span(one, one, "()"), api.No},
		// Open ends never belong.
		{span(one, open, "[]"), span(one, open, "[)"), api.Yes},
		{span(open, one, "[]"), span(open, one, "(]"), api.Yes},
		{span(one, open, "[]"), span(one, open, "()"), api.No},
		{span(open, one, "[]"), span(open, one, "()"), api.No},
		{span(one, open, "()"), span(one, two, "()"), api.No},
		{span(open, two, "(]"), span(one, two, "(]"), api.No},
		{span(one, open, "()"), span(open, one, "()"), api.No},
		{span(open, open, "[]"), span(open, open, "()"), api.Yes},
		{span(open, open, "()"), span(one, open, "()"), api.No},
		{span(open, open, "()"), span(open, one, "()"), api.No},
		// Of unlike kinds it is not known, but where something else is unlike.
		{span(one, two, "[]"), span(a, b, "[]"), api.Unknown},
		{span(one, two, "[]"), span(a, b, "[)"), api.No},
		{span(one, open, "[)"), span(a, open, "[)"), api.Unknown},
		{span(open, one, "(]"), span(open, a, "(]"), api.Unknown},
		{span(one, open, "()"), span(open, a, "()"), api.No},
		{span(one, two, "()"), span(a, open, "()"), api.No},
		{span(early, late, "[]"), span(zoned, later, "[]"), api.Unknown},
		{span(early, late, "[]"), span(early, later, "[]"), api.Unknown},
		{span(early, late, "[]"), span(zoned, late, "[]"), api.Unknown},
		{span(early, late, "[]"), span(zoned, early, "[]"), api.No},
		{span(early, late, "[]"), span(late, later, "[]"), api.No},
		{span(zoned, later, "[]"), span(clockAt(3600, 3600), clockAt(3601, 3600), "[]"), api.Yes},
	} {
		checkSame(t, x.a, x.b, x.want)
		checkSame(t, list(x.a), list(x.b), x.want)
	}
}

func TestP123Functions(t *testing.T) {
	f := function("code", 1)
	checkSame(t, f, f, api.Unknown)
	checkSame(t, f, function("other", 2), api.Unknown)
	checkSame(t, f, null(), api.No)
	checkSame(t, list(f), list(f), api.Unknown)
	checkSame(t, list(f, whole(1)), list(f, whole(1)), api.Unknown)
	checkSame(t, list(f, whole(1)), list(f, whole(2)), api.No)
	checkSame(t, list(f), list(null()), api.No)
	checkSame(t, list(f), list(f, f), api.No)
	checkSame(t, context("a", f), context("a", f), api.Unknown)
	checkSame(t, context("a", f), context("b", f), api.No)
	// What a function is to whoever made it is not asked, be it something that can't be held against itself.
	for _, code := range []any{nil, true, []int{1}, map[int]int{}, value.Int(1), func() {}} {
		v := value.Func(code, 0)
		if got := equal.Same(v, v); got != api.Unknown {
			t.Errorf("Same of a function that is %T = %d", code, got)
		}
	}
}

// nested is a list in a context in a list and so on.
func nested(n int, last thing) value.Value {
	v := last.made()
	for i := range n {
		if i%2 == 0 {
			v = value.List(v)
		} else {
			v = value.Context([]string{"a"}, []value.Value{v})
		}
	}
	return v
}

func TestP123Deep(t *testing.T) {
	const n = 1 << 16
	for _, x := range []struct {
		a, b value.Value
		want api.Truth
	}{
		{nested(n, whole(7)), nested(n, num("70", -1)), api.Yes},
		{nested(n, whole(7)), nested(n, whole(8)), api.No},
		{nested(n, whole(7)), nested(n, text("7")), api.Unknown},
		{nested(n, null()), nested(n, null()), api.Yes},
		{nested(n, list()), nested(n, list(null())), api.No},
		{nested(n, function("code", 1)), nested(n, function("code", 1)), api.Unknown},
		{nested(n, whole(7)), nested(n-2, whole(7)), api.Unknown},
		{nested(n, whole(7)), nested(n-2, null()), api.No},
		{nested(n, whole(7)), value.Value{}, api.No},
	} {
		if got, back := equal.Same(x.a, x.b), equal.Same(x.b, x.a); got != x.want || back != x.want {
			t.Error(got, back, x.want)
		}
	}
}

func TestP123Long(t *testing.T) {
	const n = 1 << 17
	items := make([]value.Value, n)
	for i := range items {
		items[i] = value.Int(i)
	}
	whole := value.List(items...)
	if got := equal.Same(whole, value.List(items...)); got != api.Yes {
		t.Error(got)
	}
	if got := equal.Same(whole, value.List(items[1:]...)); got != api.No {
		t.Error(got)
	}
	items[0] = value.Text("0")
	if got := equal.Same(whole, value.List(items...)); got != api.Unknown {
		t.Error(got)
	}
	items[n-1] = value.Int(n)
	if got := equal.Same(whole, value.List(items...)); got != api.No {
		t.Error(got)
	}
}

func TestP123WideContexts(t *testing.T) {
	const n = 1 << 16
	names, items := make([]string, n), make([]value.Value, n)
	for i := range n {
		names[i], items[i] = strconv.Itoa(i), value.Int(i)
	}
	c := value.Context(names, items)
	slices.Reverse(names)
	slices.Reverse(items)
	if got := equal.Same(c, value.Context(names, items)); got != api.Yes {
		t.Error(got)
	}
	items[0] = value.Text("a")
	if got := equal.Same(c, value.Context(names, items)); got != api.Unknown {
		t.Error(got)
	}
	names[n-1] = "another"
	if got := equal.Same(c, value.Context(names, items)); got != api.No {
		t.Error(got)
	}
}

// Holding values against one another leaves them as they are.
func TestP123ChangesNothing(t *testing.T) {
	x := list(context("b a", whole(2), whole(1)), span(whole(1), null(), "[)"))
	y := list(context("a b", num("10", -1), whole(2)), span(num("10", -1), null(), "[)"))
	a, b := x.made(), y.made()
	before, _ := value.Plain(a)
	for range 3 {
		if got := equal.Same(a, b); got != api.Yes {
			t.Error(got)
		}
	}
	after, _ := value.Plain(a)
	names := after.Items[0].Names
	if !slices.Equal(names, []string{"b", "a"}) || after.Items[0].Items[0].Text != "2" || before.Items[1].In != after.Items[1].In {
		t.Error(before, after)
	}
}

func TestP123ByTheWords(t *testing.T) {
	r := rand.New(rand.NewSource(123))
	var seen [3]int
	for range 20000 {
		x := someThing(r, 3)
		y := alike(r, x)
		checkPair(t, x, y)
		checkPair(t, x, x)
		seen[sameModel(x, y)]++
	}
	if min(seen[0], seen[1], seen[2]) < 1000 {
		t.Error("too few of one truth:", seen)
	}
	for range 5000 {
		checkPair(t, someThing(r, 2), someThing(r, 2))
	}
}
