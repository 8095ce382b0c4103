package member_test

import (
	"math"
	"math/rand"
	"slices"
	"strconv"
	"testing"

	"casuist/api"
	"casuist/kinds"
	"casuist/member"
	"casuist/value"
)

func TestP142InstanceOfNull(t *testing.T) {
	for _, u := range many() {
		checkInstance(t, null(), u, u.Kind == api.Null)
	}
	checkInstance(t, null(), of(api.Null), true)
	checkInstance(t, null(), anything(), false)
	checkInstance(t, null(), numbers(), false)
	checkInstance(t, null(), listOf(of(api.Null)), false)
	if !member.Instance(value.Value{}, of(api.Null)) || !member.Instance(value.Int(1<<62), numbers()) || member.Instance(value.Text("\xff"), anything()) {
		t.Error("a zero value is null")
	}
}

func TestP142Instance(t *testing.T) {
	for _, x := range things() {
		if x.kind == api.Null {
			continue
		}
		checkInstance(t, x, anything(), true)
		checkInstance(t, x, of(api.Null), false)
		checkInstance(t, x, ofModel(x), true)
	}
	// A null within is of each type, as it is of Is.
	checkInstance(t, list(null()), listOf(numbers()), true)
	checkInstance(t, list(null()), listOf(of(api.Null)), true)
	checkInstance(t, list(null()), listOf(anything()), true)
	checkInstance(t, list(number(1), null()), listOf(texts()), false)
	checkInstance(t, context("a", null()), contextOf("a", numbers()), true)
	checkInstance(t, context("a", null()), contextOf("b", numbers()), false)
	checkInstance(t, span(null(), null(), "()"), rangeOf(numbers()), true)
	checkInstance(t, span(null(), number(1), "()"), rangeOf(texts()), false)
	checkInstance(t, function(1), functionOf(numbers(), texts()), true)
	checkInstance(t, function(1), functionOf(numbers()), false)
	checkInstance(t, number(1), numbers(), true)
	checkInstance(t, number(1), texts(), false)
	checkInstance(t, list(), listOf(of(api.Null)), true)
	checkInstance(t, context("a b", number(1), number(2)), contextOf("a", numbers()), true)
}

func TestP142InstanceEachPair(t *testing.T) {
	for _, x := range things() {
		for _, u := range many() {
			checkInstance(t, x, u, instanceModel(x, u))
		}
	}
}

func TestP142InstanceByTheWords(t *testing.T) {
	r := rand.New(rand.NewSource(1420))
	for range 10000 {
		x := someThing(r, 4)
		u := near(r, ofModel(x))
		checkInstance(t, x, u, instanceModel(x, u))
	}
}

func TestP142OfSimple(t *testing.T) {
	for _, x := range leaves() {
		checkOf(t, x, of(x.kind))
		checkOf(t, list(x), listOf(of(x.kind)))
		checkOf(t, context("a", x), contextOf("a", of(x.kind)))
	}
	if got := member.Of(value.Value{}); !same(got, of(api.Null)) {
		t.Error(show(got))
	}
}

func TestP142OfLists(t *testing.T) {
	n, s, one, a := numbers(), texts(), number(1), text("a")
	for _, x := range []struct {
		items []thing
		want  api.Type
	}{
		{nil, of(api.Null)},
		{[]thing{null()}, of(api.Null)},
		{[]thing{null(), null()}, of(api.Null)},
		{[]thing{one}, n},
		{[]thing{one, number(2), number(3)}, n},
		{[]thing{one, null()}, n},
		{[]thing{null(), one}, n},
		{[]thing{one, a}, anything()},
		{[]thing{a, one}, anything()},
		{[]thing{one, one, one, a}, anything()},
		{[]thing{one, a, one, null()}, anything()},
		{[]thing{days(1), months(1)}, anything()},
		{[]thing{boolean(true), boolean(false)}, of(api.Boolean)},
		{[]thing{list()}, listOf(of(api.Null))},
		{[]thing{list(), list(one)}, listOf(n)},
		{[]thing{list(one), list(), null()}, listOf(n)},
		{[]thing{list(one), list(a)}, listOf(anything())},
		{[]thing{list(one, a), list(one)}, listOf(anything())},
		{[]thing{list(one), list(one, a)}, listOf(anything())},
		{[]thing{list(one), one}, anything()},
		{[]thing{one, list(one)}, anything()},
		{[]thing{list(one), list(list(one))}, listOf(anything())},
		{[]thing{list(list()), list(list(one))}, listOf(listOf(n))},
		{[]thing{list(list(a)), list(list(one))}, listOf(listOf(anything()))},
		{[]thing{list(one), span(one, one, "[]")}, anything()},
		{[]thing{list(one), context("a", one)}, anything()},
		{[]thing{span(one, one, "[]"), span(a, null(), "[]")}, rangeOf(anything())},
		{[]thing{span(one, one, "[]"), span(null(), null(), "[]")}, rangeOf(n)},
		{[]thing{function(0)}, taking(0)},
		{[]thing{function(1), function(1), null()}, taking(1)},
		{[]thing{function(1), function(2)}, anything()},
		{[]thing{function(1), function(2), function(1)}, anything()},
		{[]thing{function(2), function(0)}, anything()},
		{[]thing{function(1), one}, anything()},
		{[]thing{list(function(1)), list(function(2))}, listOf(anything())},
		{[]thing{context(""), context("")}, contextOf("")},
		{[]thing{context("a", one), null()}, contextOf("a", n)},
		{[]thing{context("a", one), context("a", null())}, contextOf("a", n)},
		{[]thing{context("a", null()), context("a", one)}, contextOf("a", n)},
		{[]thing{context("a", one), context("a", a)}, contextOf("a", anything())},
		{[]thing{context("a", one), context("b", one)}, contextOf("")},
		{[]thing{context("a b", one, a), context("a", number(2))}, contextOf("a", n)},
		{[]thing{context("a", one), context("a b", one, a)}, contextOf("a", n)},
		{[]thing{context("a b", one, a), context("b c", a, one)}, contextOf("b", s)},
		{[]thing{context("a", one), one}, anything()},
		{[]thing{context("f", function(1)), context("f", function(2))}, contextOf("f", anything())},
		{[]thing{context("f", function(1)), context("f", function(1))}, contextOf("f", taking(1))},
	} {
		checkOf(t, list(x.items...), listOf(x.want))
		checkOf(t, list(list(x.items...)), listOf(listOf(x.want)))
		checkOf(t, context("a b", list(x.items...), one), contextOf("a b", listOf(x.want), n))
	}
}

// Where each of two contexts conforms to the other one, the later one's order stays; where one of them does, the order of that to which it does; where neither does, the earlier one's.
func TestP142OfListsKeepsAnOrder(t *testing.T) {
	n, s, one, a, nothing := numbers(), texts(), number(1), text("a"), null()
	for _, x := range []struct {
		items []thing
		want  api.Type
	}{
		{[]thing{context("a b", one, a), context("b a", a, one)}, contextOf("b a", s, n)},
		{[]thing{context("a b", one, a), context("b a", a, one), context("a b", one, a)}, contextOf("a b", n, s)},
		{[]thing{context("a b", one, nothing), context("b a", a, one)}, contextOf("b a", s, n)},
		{[]thing{context("a b", one, a), context("b a", nothing, one)}, contextOf("a b", n, s)},
		{[]thing{context("a b", one, nothing), context("b a", a, nothing)}, contextOf("a b", n, s)},
		{[]thing{context("b a", a, nothing), context("a b", one, nothing)}, contextOf("b a", s, n)},
		{[]thing{context("a b c", one, a, one), context("c a", one, one)}, contextOf("c a", n, n)},
		{[]thing{context("c a", one, one), context("a b c", one, a, one)}, contextOf("c a", n, n)},
		{[]thing{context("a b c", one, a, one), context("c d b", one, a, one)}, contextOf("b c", anything(), n)},
		{[]thing{context("c d b", one, a, one), context("a b c", one, a, one)}, contextOf("c b", n, anything())},
		{[]thing{context("a b", one, a), context("b a", one, one)}, contextOf("a b", n, anything())},
		{[]thing{context("a b", one, list(one)), context("b a", list(a), one)}, contextOf("a b", n, listOf(anything()))},
		{[]thing{context("a", context("b c", one, a)), context("a", context("c d", a, one))}, contextOf("a", contextOf("c", s))},
		{[]thing{context("a x", context("b c", one, a), one), context("a y", context("c b", a, one), one)}, contextOf("a", contextOf("c b", s, n))},
		{[]thing{context("x a", one, context("b c", one, nothing)), context("a y", context("c b", a, nothing), one)}, contextOf("a", contextOf("b c", n, s))},
		{[]thing{context("f g", function(1), one), context("g f", one, function(1))}, contextOf("g f", n, taking(1))},
		{[]thing{context("f g", function(1), one), context("g f", one, function(2))}, contextOf("f g", anything(), n)},
		{[]thing{context("f g", function(1), null()), context("g f", one, function(2)), context("g f", one, one)}, contextOf("f g", anything(), n)},
	} {
		if !same(ofModel(list(x.items...)), listOf(x.want)) {
			t.Errorf("%s is not what the words say of %s", show(x.want), picture(list(x.items...)))
		}
		checkOf(t, list(x.items...), listOf(x.want))
		checkOf(t, list(list(x.items[0]), list(x.items[1:]...)), ofModel(list(list(x.items[0]), list(x.items[1:]...))))
	}
	// Of lists in lists each is joined by itself, ahead of all together.
	ba, abc, abd := context("b a", a, one), context("a b c", one, a, one), context("a b d", one, a, one)
	checkOf(t, list(ba, abc, abd), listOf(contextOf("b a", s, n)))
	checkOf(t, list(list(ba), list(abc, abd)), listOf(listOf(contextOf("a b", n, s))))
	checkOf(t, list(list(ba, abc), list(abd)), listOf(listOf(contextOf("b a", s, n))))
}

func TestP142OfRanges(t *testing.T) {
	n := numbers()
	for _, brackets := range []string{"[]", "[)", "(]", "()"} {
		checkOf(t, span(number(1), number(2), brackets), rangeOf(n))
		checkOf(t, span(number(1), null(), brackets), rangeOf(n))
		checkOf(t, span(null(), number(1), brackets), rangeOf(n))
		checkOf(t, span(null(), null(), brackets), rangeOf(of(api.Null)))
		checkOf(t, span(text("a"), null(), brackets), rangeOf(texts()))
		checkOf(t, list(span(null(), days(1), brackets)), listOf(rangeOf(of(api.Days))))
		for _, x := range leaves() {
			if value.Ordered(x.kind) {
				checkOf(t, span(x, x, brackets), rangeOf(of(x.kind)))
				checkOf(t, span(null(), x, brackets), rangeOf(of(x.kind)))
			}
		}
	}
	// Ends of two kinds make null.
	v := value.Range(value.Int(1), value.Text("a"), [2]bool{true, true})
	if got := member.Of(v); !same(got, of(api.Null)) {
		t.Error(show(got))
	}
}

func TestP142OfContexts(t *testing.T) {
	n, s, one, a := numbers(), texts(), number(1), text("a")
	checkOf(t, context(""), contextOf(""))
	checkOf(t, context("a", one), contextOf("a", n))
	checkOf(t, context("a b", one, a), contextOf("a b", n, s))
	checkOf(t, context("b a", a, one), contextOf("b a", s, n))
	checkOf(t, context("c b a", null(), list(), function(1)), contextOf("c b a", of(api.Null), listOf(of(api.Null)), taking(1)))
	checkOf(t, context("a", context("")), contextOf("a", contextOf("")))
	checkOf(t, context("a b", context("b a", one, a), list(context("c", one), context("c", a))), contextOf("a b", contextOf("b a", n, s), listOf(contextOf("c", anything()))))
	x := thing{kind: api.Context, names: names(), items: slices.Repeat([]thing{one}, len(names()))}
	checkOf(t, x, api.Type{Kind: api.Context, Names: names(), Items: slices.Repeat([]api.Type{n}, len(names()))})
}

func TestP142OfFunctions(t *testing.T) {
	any1 := anything()
	checkOf(t, function(0), functionOf(any1))
	checkOf(t, function(1), functionOf(any1, any1))
	checkOf(t, function(3), functionOf(any1, any1, any1, any1))
	for n := range 40 {
		checkOf(t, function(n), taking(n))
	}
	checkOf(t, function(deepest), taking(deepest))
	checkOf(t, list(function(deepest), function(deepest+1)), listOf(any1))
	checkOf(t, list(function(deepest), function(deepest)), listOf(taking(deepest)))
}

// The document lets an answer have 2^31 - 1 bytes, and a type is of 56: so many does the greatest function's type have in it.
func TestP142OfAFunctionOfMost(t *testing.T) {
	const most = (1<<31 - 1) / 56
	own := member.Of(value.Func(nil, most-1))
	if own.Kind != api.Function || len(own.Names) != 0 || len(own.Items) != most {
		t.Fatalf("Of is of kind %d, with %d items", own.Kind, len(own.Items))
	}
	for i, item := range own.Items {
		if item.Kind != api.Any || len(item.Items) != 0 || len(item.Names) != 0 {
			t.Fatal("at", i, "stands", show(item))
		}
	}
}

// A function that takes more than any answer may tell is one of its own all the same, where it is joined with others to what has it not.
func TestP142OfJoinedFunctionsOfMore(t *testing.T) {
	one, a := number(1), text("a")
	for _, takes := range []int{1 << 26, 1 << 31, 1 << 40, math.MaxInt} {
		f, g := function(takes), function(takes-1)
		pq, qp := context("p q", one, a), context("q p", a, one)
		for _, x := range []struct {
			items []thing
			want  api.Type
		}{
			{[]thing{f, g}, anything()},
			{[]thing{g, f, null()}, anything()},
			{[]thing{f, f, one}, anything()},
			{[]thing{f, f, null(), g}, anything()},
			{[]thing{one, f}, anything()},
			{[]thing{function(2), f}, anything()},
			{[]thing{list(f), list(g)}, listOf(anything())},
			{[]thing{context("f", f), context("g", f)}, contextOf("")},
			{[]thing{context("f g", f, one), context("g", one)}, contextOf("g", numbers())},
			// Neither of these contexts conforms to the other one, so that each name's join stands in the first one's order.
			{[]thing{context("f c", f, pq), context("f c", one, qp)}, contextOf("f c", anything(), contextOf("q p", texts(), numbers()))},
			{[]thing{context("f c", one, pq), context("f c", f, qp)}, contextOf("f c", anything(), contextOf("q p", texts(), numbers()))},
			{[]thing{context("f c", f, pq), context("c f", qp, one)}, contextOf("f c", anything(), contextOf("q p", texts(), numbers()))},
			{[]thing{context("f c", f, pq), context("f c", g, qp)}, contextOf("f c", anything(), contextOf("q p", texts(), numbers()))},
			{[]thing{context("f c", f, pq), context("c f", qp, f), context("c", qp)}, contextOf("c", contextOf("q p", texts(), numbers()))},
		} {
			checkOf(t, list(x.items...), listOf(x.want))
			checkOf(t, context("a b", list(x.items...), one), contextOf("a b", listOf(x.want), numbers()))
		}
	}
}

func TestP142OfEach(t *testing.T) {
	for _, x := range things() {
		checkOf(t, x, ofModel(x))
		for _, y := range things() {
			checkOf(t, list(x, y), ofModel(list(x, y)))
		}
	}
}

func TestP142OfByTheWords(t *testing.T) {
	r := rand.New(rand.NewSource(1421))
	parts := 0
	for range 40000 {
		x := someThing(r, 5)
		if x.kind != api.List {
			x = someList(r, 4)
		}
		want := ofModel(x)
		checkOf(t, x, want)
		if kinds.Simple(want.Items[0].Kind) || len(x.items) < 2 {
			continue
		}
		if first := ofModel(x.items[0]); !same(want.Items[0], first) {
			parts++
		}
	}
	if parts < 2000 {
		t.Error("the values tell little:", parts)
	}
}

// A value's own type is a type, the value is of it, and the type conforms to each simple-minded one that the value is of.
func TestP142OwnTypeIsOne(t *testing.T) {
	r := rand.New(rand.NewSource(1422))
	check := func(x thing) {
		t.Helper()
		v := x.made()
		own := member.Of(v)
		if !kinds.May(own) || !member.Is(v, own) || member.Instance(v, own) == false {
			t.Errorf("Of(%s) = %s", picture(x), show(own))
		}
		all, _ := v.AsList()
		types := make([]api.Type, len(all))
		for i, item := range all {
			types[i] = member.Of(item)
		}
		if v.Kind() == api.List && !same(own, listOf(kinds.All(types...))) {
			t.Errorf("Of(%s) = %s, but All is %s", picture(x), show(own), show(kinds.All(types...)))
		}
	}
	for _, x := range things() {
		check(x)
	}
	for range 5000 {
		check(someThing(r, 5))
	}
}

func TestP142OfIsItsOwn(t *testing.T) {
	check := func(x thing) {
		t.Helper()
		v := x.made()
		want := ofModel(x)
		got := member.Of(v)
		checkApart(t, got)
		spoil(got)
		if again := member.Of(v); !same(again, want) {
			t.Errorf("Of(%s), asked again, = %s", picture(x), show(again))
		}
		if !same(ofModel(x), want) || !isModel(x, want) || !member.Is(v, want) {
			t.Errorf("%s has changed", picture(x))
		}
	}
	for _, x := range things() {
		check(x)
		check(list(x, x))
		check(context("a b", x, x))
	}
	r := rand.New(rand.NewSource(1423))
	for range 3000 {
		check(someThing(r, 5))
	}
}

// checkApart holds that no two parts of a type share memory: each list of it, written to, leaves all others.
func checkApart(t *testing.T, got api.Type) {
	t.Helper()
	want := clone(got)
	items := map[*api.Type]int{}
	names := map[*string]int{}
	var walk func(api.Type)
	walk = func(u api.Type) {
		room := u.Items[:cap(u.Items)]
		for i := range room {
			items[&room[i]]++
		}
		nameRoom := u.Names[:cap(u.Names)]
		for i := range nameRoom {
			names[&nameRoom[i]]++
		}
		for _, item := range u.Items {
			walk(item)
		}
	}
	walk(got)
	for _, n := range items {
		if n > 1 {
			t.Errorf("two lists of %s share memory", show(want))
			return
		}
	}
	for _, n := range names {
		if n > 1 {
			t.Errorf("two lists of names of %s share memory", show(want))
			return
		}
	}
}

// One value in two places has a type in each.
func TestP142OfOneInManyPlaces(t *testing.T) {
	one := context("x f", list(number(1), null()), function(2)).made()
	v := value.Context([]string{"a", "b"}, []value.Value{one, value.List(one, one)})
	got := member.Of(v)
	in := contextOf("x f", listOf(numbers()), taking(2))
	if !same(got, contextOf("a b", in, listOf(in))) {
		t.Error(show(got))
	}
	checkApart(t, got)
}

func TestP142Deep(t *testing.T) {
	for _, w := range deepOnes() {
		for _, deep := range []int{1, 2, 100, deepest - 2} {
			x := nest(deep, number(1), w.thing)
			checkOf(t, x, nest(deep, numbers(), w.of))
			checkInstance(t, x, nest(deep, texts(), w.of), false)
		}
	}
}

// Two side by side that differ at the bottom alone.
func TestP142DeepSideBySide(t *testing.T) {
	for i, w := range deepOnes() {
		deep := 1000
		if i == 3 {
			deep = deepest - 2
		}
		x := list(nest(deep, number(1), w.thing), nest(deep, text("a"), w.thing), nest(deep, null(), w.thing))
		checkOf(t, x, listOf(nest(deep, anything(), w.of)))
		x = list(x.items[2], x.items[1])
		checkOf(t, x, listOf(nest(deep, texts(), w.of)))
	}
}

// At each depth two are joined, neither of which conforms to the other one.
func TestP142JoinedAtEachDepth(t *testing.T) {
	x := nest(deepest/2-1, number(1), func(x thing) thing {
		return list(context("left a b", number(1), x, null()), context("right b a", number(1), text("a"), null()))
	})
	checkOf(t, x, nest(deepest/2-1, numbers(), func(t api.Type) api.Type { return listOf(contextOf("a b", t, texts())) }))
	x = nest(deepest/2-1, number(1), func(x thing) thing {
		return list(list(), list(x), list(null()), null())
	})
	checkOf(t, x, nest(deepest-2, numbers(), listOf))
}

func TestP142Wide(t *testing.T) {
	items := slices.Repeat([]thing{number(1), null()}, deepest/2)
	checkOf(t, list(items...), listOf(numbers()))
	items[deepest-1] = text("a")
	checkOf(t, list(items...), listOf(anything()))
	wide, want := context(""), contextOf("")
	for i := range deepest {
		name := "n" + strconv.Itoa(i)
		wide.names, wide.items = append(wide.names, name), append(wide.items, number(i))
		want.Names, want.Items = append(want.Names, name), append(want.Items, numbers())
	}
	checkOf(t, wide, want)
	checkOf(t, list(wide, null(), wide), listOf(want))
	other := thing{kind: api.Context, names: slices.Clone(wide.names), items: wide.items}
	slices.Reverse(other.names)
	checkOf(t, list(wide, other), listOf(api.Type{Kind: api.Context, Names: other.names, Items: want.Items}))
	// A great one beside many small ones.
	rows := slices.Repeat([]thing{null()}, deepest)
	rows[0] = wide
	checkOf(t, list(rows...), listOf(want))
	rows = slices.Repeat([]thing{context("n7", text("a"))}, deepest)
	rows[0] = wide
	checkOf(t, list(rows...), listOf(contextOf("n7", anything())))
}

// Many functions that take many are told once.
func TestP142ManyFunctionsOfMany(t *testing.T) {
	rows := slices.Repeat([]thing{function(deepest)}, deepest)
	checkOf(t, list(rows...), listOf(taking(deepest)))
	rows[deepest-1] = function(deepest - 1)
	checkOf(t, list(rows...), listOf(anything()))
}
