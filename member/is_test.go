package member_test

import (
	"math"
	"math/rand"
	"slices"
	"strconv"
	"testing"

	"casuist/api"
	"casuist/kinds"
	"casuist/member"
	"casuist/value"
)

func TestP141Null(t *testing.T) {
	r := rand.New(rand.NewSource(1410))
	for _, x := range many() {
		checkIs(t, null(), x, true)
	}
	for range 1000 {
		checkIs(t, null(), someType(r, 4), true)
	}
	for _, x := range things() {
		checkIs(t, x, of(api.Null), x.kind == api.Null)
	}
	if !member.Is(value.Value{}, of(api.Null)) || !member.Is(value.Text("\xff"), numbers()) {
		t.Error("a zero value is null")
	}
}

func TestP141Any(t *testing.T) {
	r := rand.New(rand.NewSource(1411))
	for _, x := range things() {
		checkIs(t, x, anything(), true)
		checkIs(t, list(x, x), listOf(anything()), true)
		checkIs(t, context("a", x), contextOf("a", anything()), true)
	}
	for range 1000 {
		checkIs(t, someThing(r, 4), anything(), true)
	}
}

// Each kind of value against each kind of type: with Any within the types, the kind alone tells.
func TestP141EachKind(t *testing.T) {
	types := []api.Type{listOf(anything()), rangeOf(anything()), contextOf(""), taking(0), functionOf(numbers(), texts()), taking(2)}
	for _, k := range simpleKinds() {
		types = append(types, of(k))
	}
	seen := 0
	for _, x := range things() {
		for _, u := range types {
			want := x.kind == api.Null || u.Kind == api.Any || x.kind == u.Kind
			if x.kind == api.Function && u.Kind == api.Function {
				want = x.takes == len(u.Items)-1
			}
			checkIs(t, x, u, want)
			if x.kind == u.Kind && want {
				seen |= 1 << x.kind
			}
		}
	}
	if seen != 1<<14-2 {
		t.Errorf("not each kind has met its own type: %b", seen)
	}
}

func TestP141Lists(t *testing.T) {
	n, s, one, a := numbers(), texts(), number(1), text("a")
	for _, x := range []struct {
		list thing
		of   api.Type
		want bool
	}{
		{list(), n, true},
		{list(), of(api.Null), true},
		{list(), listOf(s), true},
		{list(one), n, true},
		{list(one), s, false},
		{list(one), of(api.Null), false},
		{list(one), anything(), true},
		{list(one), listOf(n), false},
		{list(null()), n, true},
		{list(null()), of(api.Null), true},
		{list(null()), listOf(contextOf("a", n)), true},
		{list(one, null()), n, true},
		{list(null(), one), n, true},
		{list(null(), one), of(api.Null), false},
		{list(one, null(), a), n, false},
		{list(a, one, one), n, false},
		{list(one, a, one), n, false},
		{list(one, one, a), n, false},
		{list(one, a), anything(), true},
		{list(one, one, number(3)), n, true},
		{list(list(one), list()), listOf(n), true},
		{list(list(one), list(a)), listOf(n), false},
		{list(list(one), list(a)), listOf(anything()), true},
		{list(list(one), null()), listOf(n), true},
		{list(list(one), one), listOf(n), false},
		{list(list(one, list(a))), listOf(anything()), true},
		{list(one, list(one)), anything(), true},
		{list(context("a b", one, a), context("b a", a, one)), contextOf("a b", n, s), true},
		{list(context("a b", one, a), context("b", a)), contextOf("b", s), true},
		{list(context("a b", one, a), context("b", a)), contextOf("a", n), false},
		{list(span(one, null(), "[)")), rangeOf(n), true},
		{list(span(one, null(), "[)")), rangeOf(s), false},
		{list(function(1), function(1)), taking(1), true},
		{list(function(1), function(2)), taking(1), false},
	} {
		checkIs(t, x.list, listOf(x.of), x.want)
		checkIs(t, list(x.list), listOf(listOf(x.of)), x.want)
		checkIs(t, x.list, rangeOf(x.of), false)
		checkIs(t, x.list, x.of, x.of.Kind == api.Any || x.of.Kind == api.List && isModel(x.list, x.of))
	}
}

func TestP141Ranges(t *testing.T) {
	n, s, one, two, a := numbers(), texts(), number(1), number(2), text("a")
	for _, brackets := range []string{"[]", "[)", "(]", "()"} {
		for _, x := range []struct {
			lo, hi thing
			of     api.Type
			want   bool
		}{
			{one, two, n, true},
			{two, one, n, true},
			{one, two, s, false},
			{one, two, of(api.Null), false},
			{one, two, anything(), true},
			{one, null(), n, true},
			{one, null(), s, false},
			{one, null(), of(api.Null), false},
			{null(), one, n, true},
			{null(), one, s, false},
			{null(), one, of(api.Null), false},
			{null(), null(), n, true},
			{null(), null(), of(api.Null), true},
			{null(), null(), anything(), true},
			{null(), null(), listOf(n), true},
			{one, null(), listOf(n), false},
			{a, a, s, true},
			{a, a, n, false},
			{days(1), days(2), of(api.Days), true},
			{days(1), days(2), of(api.Months), false},
			{months(1), null(), of(api.Months), true},
			{date(2024, 1, 1), null(), of(api.Date), true},
			{date(2024, 1, 1), null(), of(api.DateTime), false},
		} {
			r := span(x.lo, x.hi, brackets)
			checkIs(t, r, rangeOf(x.of), x.want)
			checkIs(t, r, listOf(x.of), false)
			checkIs(t, r, x.of, x.of.Kind == api.Any)
			checkIs(t, list(span(null(), null(), "()"), r), listOf(rangeOf(x.of)), x.want)
		}
	}
}

func TestP141Contexts(t *testing.T) {
	n, s, one, a := numbers(), texts(), number(1), text("a")
	ab, empty := context("a b", one, a), context("a")
	empty.names, empty.items = []string{"", " "}, []thing{one, a}
	nameless := func(names ...string) api.Type {
		return api.Type{Kind: api.Context, Names: names, Items: slices.Repeat([]api.Type{n}, len(names))}
	}
	for _, x := range []struct {
		context thing
		of      api.Type
		want    bool
	}{
		{context(""), contextOf(""), true},
		{context(""), contextOf("a", n), false},
		{context(""), contextOf("a", anything()), false},
		{context(""), contextOf("a", of(api.Null)), false},
		{context("a", one), contextOf(""), true},
		{context("a", one), contextOf("a", n), true},
		{context("a", one), contextOf("a", s), false},
		{context("a", one), contextOf("b", n), false},
		{context("a", one), contextOf("A", n), false},
		{context("a", one), contextOf("a", of(api.Null)), false},
		{context("a", null()), contextOf("a", of(api.Null)), true},
		{context("a", null()), contextOf("a", n), true},
		{context("a", null()), contextOf("a b", n, n), false},
		{ab, contextOf("a b", n, s), true},
		{ab, contextOf("b a", s, n), true},
		{ab, contextOf("b a", n, s), false},
		{ab, contextOf("a", n), true},
		{ab, contextOf("b", s), true},
		{ab, contextOf("b", n), false},
		{ab, contextOf("a b", n, n), false},
		{ab, contextOf("a b", s, s), false},
		{ab, contextOf("a b c", n, s, n), false},
		{ab, contextOf("c a b", n, n, s), false},
		{ab, contextOf("a c", n, s), false},
		{ab, contextOf("a b", anything(), anything()), true},
		{context("a b c", one, a, null()), contextOf("c a", listOf(n), n), true},
		{context("a", context("b", one)), contextOf("a", contextOf("b", n)), true},
		{context("a", context("b", one)), contextOf("a", contextOf("")), true},
		{context("a", context("b", one)), contextOf("a", contextOf("c", n)), false},
		{context("a", context("b", one)), contextOf("a", contextOf("b", s)), false},
		{context("a", context("b", one)), contextOf("b", n), false},
		{context("a", list(one)), contextOf("a", listOf(n)), true},
		{context("a", list(one, a)), contextOf("a", listOf(n)), false},
		{context("a", function(1)), contextOf("a", functionOf(n, s)), true},
		{context("a", function(1)), contextOf("a", functionOf(s)), false},
		{empty, nameless(""), true},
		{empty, nameless(" "), false},
		{empty, nameless("  "), false},
		{context("a", one), nameless(""), false},
		{ab, nameless(""), false},
	} {
		checkIs(t, x.context, x.of, x.want)
		checkIs(t, list(x.context, null()), listOf(x.of), x.want)
		checkIs(t, x.context, listOf(x.of), false)
	}
}

// Names are told apart byte by byte.
func TestP141Names(t *testing.T) {
	all := append(names(), "A", "aa", "a ", " a", "e\u0301", "\x00", "order  date", "\ufffd", "\U0001f600", "a.b")
	for i, name := range all {
		x := thing{kind: api.Context, names: []string{name}, items: []thing{number(i)}}
		for k, other := range all {
			checkIs(t, x, api.Type{Kind: api.Context, Names: []string{other}, Items: []api.Type{numbers()}}, i == k)
		}
	}
	// A context's names are UTF-8: none has one that is not.
	for _, other := range []string{"\xff", "a\xff", "\xc3", "\xed\xa0\x80"} {
		checkIs(t, context("a \ufffd", number(1), number(2)), api.Type{Kind: api.Context, Names: []string{other}, Items: []api.Type{numbers()}}, false)
	}
}

// What a function takes and gives is not asked, only how many it takes.
func TestP141Functions(t *testing.T) {
	for takes := range 6 {
		for n := range 6 {
			for _, u := range many() {
				of := functionOf(slices.Repeat([]api.Type{u}, n+1)...)
				checkIs(t, function(takes), of, takes == n)
			}
		}
	}
	checkIs(t, function(2), functionOf(numbers(), texts(), contextOf("a", anything())), true)
	checkIs(t, function(3), functionOf(numbers(), texts(), contextOf("a", anything())), false)
	checkIs(t, function(1), functionOf(numbers(), texts(), contextOf("a", anything())), false)
	for _, takes := range []int{deepest, deepest + 1, deepest - 1, 0, 1} {
		checkIs(t, function(takes), functionOf(slices.Repeat([]api.Type{numbers()}, deepest+1)...), takes == deepest)
	}
	for _, takes := range []int{-1, -2, math.MaxInt, math.MinInt, 1 << 32, 1<<32 + 1, 256, 257} {
		for n := range 3 {
			checkIs(t, function(takes), taking(n), false)
		}
		checkIs(t, function(takes), anything(), true)
	}
}

// A function is whatever it is to whoever made it: also nothing, or what can't be held against another one.
func TestP141FunctionsOfAnyCode(t *testing.T) {
	for _, code := range []any{nil, 1, "a", []int{1}, func() {}, map[string]int{}, value.Value{}, taking(1)} {
		v := value.Func(code, 1)
		if !member.Is(v, taking(1)) || member.Is(v, taking(0)) || member.Is(v, listOf(anything())) || !member.Instance(v, anything()) || !same(member.Of(v), taking(1)) {
			t.Errorf("a function that is %T", code)
		}
	}
}

func TestP141EachPair(t *testing.T) {
	for _, x := range things() {
		v := x.made()
		for _, u := range many() {
			checkIsOf(t, x, v, u, isModel(x, u))
		}
	}
}

func TestP141ByTheWords(t *testing.T) {
	r := rand.New(rand.NewSource(141))
	yes, no := 0, 0
	for range 40000 {
		x := someThing(r, 5)
		u := near(r, ofModel(x))
		want := isModel(x, u)
		checkIs(t, x, u, want)
		switch {
		case len(x.items) == 0 || u.Kind != x.kind:
		case want:
			yes++
		default:
			no++
		}
	}
	if yes < 4000 || no < 1500 {
		t.Error("the types tell little:", yes, no)
	}
}

// What is of a type is of each to which that one conforms.
func TestP141Conforms(t *testing.T) {
	types := many()
	for _, x := range things() {
		v := x.made()
		for _, a := range types {
			if !member.Is(v, a) {
				continue
			}
			for _, b := range types {
				if kinds.Conforms(a, b) && !member.Is(v, b) {
					t.Errorf("%s is of %s, but not of %s", picture(x), show(a), show(b))
				}
			}
		}
	}
}

// deepOnes are ways in which something stands alone in something else, as a thing and as its own type.
func deepOnes() []struct {
	thing func(thing) thing
	of    func(api.Type) api.Type
} {
	return []struct {
		thing func(thing) thing
		of    func(api.Type) api.Type
	}{
		{func(x thing) thing { return list(x) }, listOf},
		{func(x thing) thing { return list(null(), x, null()) }, listOf},
		{func(x thing) thing { return context("a", x) }, func(t api.Type) api.Type { return contextOf("a", t) }},
		{func(x thing) thing { return context("b a c", number(1), x, null()) }, func(t api.Type) api.Type { return contextOf("b a c", numbers(), t, of(api.Null)) }},
	}
}

func TestP141Deep(t *testing.T) {
	for _, w := range deepOnes() {
		for _, deep := range []int{1, 2, 100, deepest - 2} {
			x := nest(deep, number(1), w.thing)
			v := x.made()
			checkIsOf(t, x, v, nest(deep, numbers(), w.of), true)
			checkIsOf(t, x, v, nest(deep, texts(), w.of), false)
			checkIsOf(t, x, v, nest(deep/2, anything(), w.of), true)
			checkIsOf(t, x, v, nest(deep-1, numbers(), w.of), false)
			checkIsOf(t, x, v, nest(deep+1, numbers(), w.of), false)
		}
		checkIs(t, nest(1000, null(), w.thing), nest(1001, numbers(), w.of), true)
		checkIs(t, nest(1000, number(1), w.thing), nest(1000, of(api.Null), w.of), false)
	}
}

func TestP141DeepContexts(t *testing.T) {
	// Each depth has more names than its type asks for.
	x := nest(deepest-2, number(1), func(x thing) thing { return context("b a c", text("a"), x, list()) })
	checkIs(t, x, nest(deepest-2, numbers(), func(t api.Type) api.Type { return contextOf("a", t) }), true)
	checkIs(t, x, nest(deepest-2, numbers(), func(t api.Type) api.Type { return contextOf("c a b", listOf(texts()), t, texts()) }), true)
	checkIs(t, x, nest(deepest-2, numbers(), func(t api.Type) api.Type { return contextOf("c d", listOf(texts()), t) }), false)
}

func TestP141Wide(t *testing.T) {
	items := slices.Repeat([]thing{number(1), null()}, deepest/2)
	checkIs(t, list(items...), listOf(numbers()), true)
	checkIs(t, list(items...), listOf(texts()), false)
	items[deepest-1] = text("a")
	checkIs(t, list(items...), listOf(numbers()), false)
	checkIs(t, list(items...), listOf(anything()), true)
	rows := list(slices.Repeat([]thing{context("a b", number(1), text("a"))}, deepest/2)...)
	checkIs(t, rows, listOf(contextOf("b a", texts(), numbers())), true)
	rows.items[deepest/2-1] = context("a", number(1))
	checkIs(t, rows, listOf(contextOf("b a", texts(), numbers())), false)

	wide, asked := context(""), contextOf("")
	for i := range deepest {
		wide.names, wide.items = append(wide.names, "n"+strconv.Itoa(i)), append(wide.items, number(i))
		asked.Names, asked.Items = append(asked.Names, "n"+strconv.Itoa(deepest-1-i)), append(asked.Items, numbers())
	}
	v := wide.made()
	checkIsOf(t, wide, v, asked, true)
	asked.Items[deepest-1] = texts()
	checkIsOf(t, wide, v, asked, false)
	asked.Items[deepest-1], asked.Names[deepest-1] = numbers(), "another"
	checkIsOf(t, wide, v, asked, false)
	checkIsOf(t, wide, v, contextOf(""), true)
}

// A great context is asked for no more than the type's names.
func TestP141FewNamesOfManyAreAsked(t *testing.T) {
	wide := context("")
	for i := range 1 << 14 {
		wide.names, wide.items = append(wide.names, "n"+strconv.Itoa(i)), append(wide.items, number(i))
	}
	one := wide.made()
	v := value.List(slices.Repeat([]value.Value{one}, deepest)...)
	if !member.Is(v, listOf(contextOf("n5", numbers()))) || member.Is(v, listOf(contextOf("n5", texts()))) {
		t.Error("of a list of one great context many times")
	}
}
