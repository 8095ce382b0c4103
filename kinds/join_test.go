package kinds_test

import (
	"math/rand"
	"slices"
	"strings"
	"testing"

	"casuist/api"
	"casuist/kinds"
)

func checkJoin(t *testing.T, a, b, want api.Type) {
	t.Helper()
	if got := kinds.Join(a, b); !same(got, want) {
		t.Errorf("Join(%s, %s) = %s, not %s", show(a), show(b), show(got), show(want))
	}
}

// checkBoth holds a Join that is the same, whichever is named first.
func checkBoth(t *testing.T, a, b, want api.Type) {
	t.Helper()
	checkJoin(t, a, b, want)
	checkJoin(t, b, a, want)
}

func TestP134Simple(t *testing.T) {
	for _, j := range simpleKinds() {
		for _, k := range simpleKinds() {
			want := anything()
			switch {
			case j == api.Null || j == k:
				want = of(k)
			case k == api.Null:
				want = of(j)
			}
			checkBoth(t, of(j), of(k), want)
		}
	}
	for _, x := range many() {
		checkBoth(t, x, x, x)
		checkBoth(t, null(), x, x)
		checkBoth(t, x, anything(), anything())
	}
}

func TestP134UnlikeKinds(t *testing.T) {
	for i, x := range many() {
		for _, y := range many()[i:] {
			if x.Kind != y.Kind && x.Kind != api.Null && y.Kind != api.Null {
				checkBoth(t, x, y, anything())
			}
		}
	}
	checkBoth(t, list(number()), span(number()), anything())
	checkBoth(t, context(""), list(null()), anything())
	checkBoth(t, function(number()), number(), anything())
}

func TestP134ListsAndRanges(t *testing.T) {
	n, s := number(), text()
	for _, of := range []func(api.Type) api.Type{list, span} {
		checkBoth(t, of(n), of(null()), of(n))
		checkBoth(t, of(n), of(s), of(anything()))
		checkBoth(t, of(n), of(anything()), of(anything()))
		checkBoth(t, of(of(n)), of(of(s)), of(of(anything())))
		checkBoth(t, of(of(n)), of(n), of(anything()))
		checkBoth(t, of(of(n)), of(of(null())), of(of(n)))
		checkBoth(t, of(of(n)), of(null()), of(of(n)))
		checkBoth(t, of(list(n)), of(span(n)), of(anything()))
		checkBoth(t, of(context("a b", n, s)), of(context("a", n)), of(context("a", n)))
		checkJoin(t, of(context("a b", n, s)), of(context("b c", n, s)), of(context("b", anything())))
		checkBoth(t, of(function(n)), of(function(s)), of(anything()))
		checkBoth(t, of(function(null())), of(function(s)), of(function(s)))
	}
}

func TestP134Contexts(t *testing.T) {
	n, s, b := number(), text(), boolean()
	for _, x := range []struct{ a, b, want api.Type }{
		{context(""), context(""), context("")},
		{context("a", n), context(""), context("")},
		{context("a b", n, s), context("a", n), context("a", n)},
		{context("a b", n, s), context("b", s), context("b", s)},
		{context("a b", n, s), context("b c", n, s), context("b", anything())},
		{context("a b", n, s), context("c d", n, s), context("")},
		{context("a", n), context("b", n), context("")},
		{context("a", n), context("a", s), context("a", anything())},
		// Where each conforms to the other one it is the second one: in its order.
		{context("a b", n, s), context("b a", s, n), context("b a", s, n)},
		{context("c a b", b, n, s), context("b a c", s, n, b), context("b a c", s, n, b)},
		// Where the first one conforms it is the second one, where the second one does the first: in the order of that one.
		{context("a b c", n, s, b), context("c a", b, n), context("c a", b, n)},
		{context("c a", b, n), context("a b c", n, s, b), context("c a", b, n)},
		{context("a b", n, null()), context("b a", s, n), context("b a", s, n)},
		{context("a b", n, s), context("b a", null(), n), context("a b", n, s)},
		{context("a b", n, anything()), context("b a", s, n), context("a b", n, anything())},
		// Where neither does, in the first one's order.
		{context("a b c", n, s, b), context("c b d a", b, n, n, n), context("a b c", n, anything(), b)},
		{context("c b d a", b, n, n, n), context("a b c", n, s, b), context("c b a", b, anything(), n)},
		{context("a b", n, null()), context("b a", n, null()), context("a b", n, n)},
		{context("a b c", n, null(), n), context("d c b", n, null(), s), context("b c", s, n)},
		{context("x a", n, n), context("a y", null(), n), context("a", n)},
		{context("x a", n, anything()), context("a y", n, n), context("a", anything())},
		// Each name by itself: one conforms in the one way, another one in the other way.
		{context("a b", n, anything()), context("a b", anything(), s), context("a b", anything(), anything())},
		{context("a b", list(n), list(null())), context("b a", list(s), list(null())), context("a b", list(n), list(s))},
		// Parts that are contexts themselves.
		{context("a", context("b c", n, s)), context("a", context("c d", s, n)), context("a", context("c", s))},
		{context("a", context("b c", n, s)), context("a x", context("c b", s, n), n), context("a", context("b c", n, s))},
		{context("a x", context("b c", n, s), n), context("a y", context("c b", s, n), n), context("a", context("c b", s, n))},
		{context("a", context("b c", n, s)), context("a", list(n)), context("a", anything())},
		{context("a x", function(n), n), context("a", function(s)), context("a", anything())},
	} {
		checkJoin(t, x.a, x.b, x.want)
	}
}

func TestP134Functions(t *testing.T) {
	n, s, any1, none := number(), text(), anything(), null()
	for _, x := range []struct{ a, b, want api.Type }{
		{function(n), function(n), function(n)},
		{function(n), function(s), any1},
		{function(n), function(any1), function(any1)},
		{function(n), function(none), function(n)},
		{function(n), function(n, n), any1},
		{function(n, n), function(s, n), any1},
		{function(any1, n), function(s, n), function(s, n)},
		{function(n, n), function(none, n), function(none, n)},
		{function(any1, n), function(s, any1), function(s, any1)},
		{function(any1, any1), function(s, n), any1},
		{function(any1, n, n), function(n, any1, n), any1},
		{function(list(n)), function(list(s)), any1},
		{function(context("a", n)), function(context("b", n)), any1},
		{function(context("a", n), n), function(context("a b", n, n), n), function(context("a b", n, n), n)},
		{function(function(n)), function(function(s)), any1},
		{function(function(n)), function(function(any1)), function(function(any1))},
	} {
		checkBoth(t, x.a, x.b, x.want)
		checkBoth(t, list(x.a), list(x.b), list(x.want))
	}
	// Each conforms to the other one: the second one.
	ab, ba := context("a b", n, s), context("b a", s, n)
	checkJoin(t, function(ab, ba), function(ba, ab), function(ba, ab))
	checkJoin(t, function(ba, ab), function(ab, ba), function(ab, ba))
}

func TestP134EachPair(t *testing.T) {
	for _, a := range many() {
		for _, b := range many() {
			checkJoin(t, a, b, joinModel(a, b))
		}
	}
}

// Both conform to what they are joined to, and that is a type; of types in which no functions are it conforms to each other one to which both do.
func TestP134IsTheLeast(t *testing.T) {
	all := slices.DeleteFunc(many(), hasFunction)
	for _, a := range all {
		for _, b := range all {
			join := kinds.Join(a, b)
			if !kinds.May(join) || !kinds.Conforms(a, join) || !kinds.Conforms(b, join) {
				t.Errorf("Join(%s, %s) = %s", show(a), show(b), show(join))
			}
			for _, c := range all {
				if kinds.Conforms(a, c) && kinds.Conforms(b, c) && !kinds.Conforms(join, c) {
					t.Errorf("Join(%s, %s) = %s, but %s is less", show(a), show(b), show(join), show(c))
				}
			}
		}
	}
}

func hasFunction(t api.Type) bool {
	return t.Kind == api.Function || slices.ContainsFunc(t.Items, hasFunction)
}

func TestP134ByTheWords(t *testing.T) {
	r := rand.New(rand.NewSource(134))
	parts := 0
	for range 40000 {
		a := someType(r, 5)
		b := near(r, a)
		want := joinModel(a, b)
		if !same(want, a) && !same(want, b) && want.Kind != api.Any {
			parts++
		}
		checkJoin(t, a, b, want)
		if got := kinds.Join(a, b); !kinds.May(got) || !kinds.Conforms(a, got) || !kinds.Conforms(b, got) || !kinds.Same(got, kinds.Join(b, a)) {
			t.Errorf("Join(%s, %s) = %s", show(a), show(b), show(got))
		}
	}
	if parts < 3000 {
		t.Error("the types tell little:", parts)
	}
}

func TestP134All(t *testing.T) {
	n, s := number(), text()
	check := func(want api.Type, ts ...api.Type) {
		t.Helper()
		if got := kinds.All(ts...); !same(got, want) {
			t.Errorf("All of what is in %s = %s, not %s", show(function(ts...)), show(got), show(want))
		}
	}
	check(null())
	check(null(), []api.Type{}...)
	check(null(), null())
	check(null(), null(), null(), null())
	for _, x := range many() {
		check(x, x)
		check(x, x, x, x)
		check(x, null(), x, null())
	}
	check(n, n, n)
	check(anything(), n, s)
	check(anything(), n, n, n, s)
	check(anything(), anything(), n)
	check(list(n), list(null()), list(n), null())
	check(list(anything()), list(n), list(s), list(n))
	check(context("b", s), context("a b", n, s), context("b a", s, n), context("b", null()))
	check(context("b a", s, n), context("a b", n, s), context("b a", s, n))
	check(context("a b", n, s), context("a b", n, s), context("b a", s, null()))
	check(context(""), context("a b", n, s), context("b c", s, n), context("c a", n, n))
	check(context("a", anything()), context("a", n), context("a b", s, s), context("a", n))
	check(function(n), function(null()), function(n))
	// In turn: what two functions are joined to depends on what comes between them.
	check(function(anything()), function(anything()), function(n), function(s))
	check(anything(), function(n), function(s), function(anything()))
}

// Null is joined with each in turn, from the first one on.
func TestP134AllByTheWords(t *testing.T) {
	r := rand.New(rand.NewSource(1341))
	for range 20000 {
		first := someType(r, 4)
		ts := []api.Type{first}
		for range r.Intn(5) {
			ts = append(ts, near(r, first))
		}
		if r.Intn(4) == 0 {
			ts = ts[1:]
		}
		want := null()
		for _, x := range ts {
			want = joinModel(want, x)
		}
		if got := kinds.All(ts...); !same(got, want) {
			t.Errorf("All of what is in %s = %s, not %s", show(function(ts...)), show(got), show(want))
		}
	}
}

func TestP134AllOfMany(t *testing.T) {
	ts := slices.Repeat([]api.Type{null(), list(number())}, deepest/2)
	checkIs(t, "All", kinds.All(ts...), list(number()))
	ts[deepest-1] = list(text())
	checkIs(t, "All", kinds.All(ts...), list(anything()))
	// A great one that all others leave as it is.
	ts = slices.Repeat([]api.Type{null()}, deepest)
	ts[0] = wide(upwards, func(int) api.Type { return number() })
	checkIs(t, "All", kinds.All(ts...), ts[0])
	ts[deepest-1] = context("")
	checkIs(t, "All", kinds.All(ts...), context(""))
}

func TestP134Meets(t *testing.T) {
	samples := map[api.Kind][]api.Type{}
	for _, x := range many() {
		samples[x.Kind] = append(samples[x.Kind], x)
	}
	if len(samples) != 14 {
		t.Error("kinds without a sample:", len(samples))
	}
	for j, as := range samples {
		for k, bs := range samples {
			want := j == k || j == api.Any || k == api.Any || j == api.Null || k == api.Null
			for _, a := range as {
				for _, b := range bs {
					if kinds.Meets(a, b) != want || meetsModel(a, b) != want {
						t.Errorf("Meets(%s, %s) = %v", show(a), show(b), kinds.Meets(a, b))
					}
				}
			}
		}
	}
	n, s := number(), text()
	for _, x := range [][2]api.Type{{n, n}, {list(n), list(s)}, {context("a", n), context("b", s)}, {function(n), function(n, s)}, {span(n), span(list(s))}, {null(), list(n)}, {anything(), null()}} {
		if !kinds.Meets(x[0], x[1]) || !kinds.Meets(x[1], x[0]) {
			t.Error(x)
		}
	}
	for _, x := range [][2]api.Type{{n, s}, {list(anything()), span(anything())}, {list(n), n}, {of(api.Date), of(api.DateTime)}, {of(api.Days), of(api.Months)}, {context(""), function(null())}} {
		if kinds.Meets(x[0], x[1]) || kinds.Meets(x[1], x[0]) {
			t.Error(x)
		}
	}
}

func TestP134JoinIsItsOwn(t *testing.T) {
	join := func(given []api.Type) api.Type { return kinds.Join(given[0], given[1]) }
	all := func(given []api.Type) api.Type { return kinds.All(given...) }
	for _, a := range many() {
		for _, b := range many() {
			checkOwn(t, "Join", joinModel(a, b), join, a, b)
		}
		checkOwn(t, "All", a, all, a)
		checkOwn(t, "All", a, all, null(), a, a)
	}
	r := rand.New(rand.NewSource(1342))
	for range 5000 {
		a := someType(r, 5)
		b, c := near(r, a), near(r, a)
		checkOwn(t, "Join", joinModel(a, b), join, a, b)
		checkOwn(t, "All", joinModel(joinModel(a, b), c), all, a, b, c)
	}
}

// What both have of one memory stands in the answer in memories of its own.
func TestP134SharedPartsComeApart(t *testing.T) {
	n, s := number(), text()
	in := context("x y", n, s)
	a := context("a b c", in, in, n)
	b := context("b a d", in, in, n)
	got := kinds.Join(a, b)
	checkIs(t, "Join", got, context("a b", in, in))
	checkParts(t, "Join", got)
	got = kinds.Join(a, a)
	checkParts(t, "Join", got)
	got = kinds.All(function(in, in, in), function(in, in, in))
	checkIs(t, "All", got, function(in, in, in))
	checkParts(t, "All", got)
	if !same(in, context("x y", n, s)) {
		t.Error(in)
	}
}

func TestP134Deep(t *testing.T) {
	n, s := number(), text()
	for sides, around := range arounds() {
		for _, deep := range []int{1000, deepest - 2} {
			a, b := deepPair(deep, around, null(), n)
			checkJoin(t, a, b, b)
			a, b = deepPair(deep, around, n, s)
			want := nest(deep, anything(), around)
			if strings.HasPrefix(sides[0], "function") {
				want = anything()
			}
			checkJoin(t, b, a, want)
			checkIs(t, "All", kinds.All(a, b, a), want)
			if !kinds.Meets(a, b) {
				t.Error("two of one kind do not meet where much is in them:", sides)
			}
		}
	}
	// At no depth does one conform to the other one.
	left := nest(deepest-1, n, func(t api.Type) api.Type { return context("a left", t, n) })
	right := nest(deepest-1, n, func(t api.Type) api.Type { return context("right a", s, t) })
	checkBoth(t, left, right, nest(deepest-1, n, func(t api.Type) api.Type { return context("a", t) }))
}

func TestP134Wide(t *testing.T) {
	a := wide(upwards, func(int) api.Type { return number() })
	b := wide(downwards, func(i int) api.Type { return of(pick(rand.New(rand.NewSource(int64(i))), simpleKinds())) })
	checkJoin(t, a, a, a)
	want := wide(upwards, func(i int) api.Type { return joinModel(number(), b.Items[deepest-1-i]) })
	checkJoin(t, a, b, want)
	checkJoin(t, b, a, wide(downwards, func(i int) api.Type { return want.Items[i] }))
	b.Names[5] = "another"
	want.Names, want.Items = slices.Delete(want.Names, deepest-6, deepest-5), slices.Delete(want.Items, deepest-6, deepest-5)
	checkJoin(t, a, b, want)
}
