package kinds_test

import (
	"math/rand"
	"slices"
	"strconv"
	"testing"

	"casuist/api"
	"casuist/kinds"
)

// checkConforms holds two types, each way round: whether the first conforms to the second one, and the second one to the first.
func checkConforms(t *testing.T, a, b api.Type, there, back bool) {
	t.Helper()
	if got := kinds.Conforms(a, b); got != there {
		t.Errorf("Conforms(%s, %s) = %v", show(a), show(b), got)
	}
	if got := kinds.Conforms(b, a); got != back {
		t.Errorf("Conforms(%s, %s) = %v", show(b), show(a), got)
	}
	for _, of := range [][2]api.Type{{a, b}, {b, a}} {
		if got := kinds.Same(of[0], of[1]); got != (there && back) {
			t.Errorf("Same(%s, %s) = %v", show(of[0]), show(of[1]), got)
		}
	}
}

// checkWithin holds two types also where they stand in others: in what a function takes they conform the other way round.
func checkWithin(t *testing.T, a, b api.Type, there, back bool) {
	t.Helper()
	n, s := number(), text()
	checkConforms(t, a, b, there, back)
	checkConforms(t, list(a), list(b), there, back)
	checkConforms(t, span(a), span(b), there, back)
	checkConforms(t, context("x", a), context("x", b), there, back)
	checkConforms(t, context("x y z", n, a, s), context("z y x", s, b, n), there, back)
	checkConforms(t, function(a), function(b), there, back)
	checkConforms(t, function(n, a), function(n, b), there, back)
	checkConforms(t, function(a, n), function(b, n), back, there)
	checkConforms(t, function(n, a, s, n), function(n, b, s, n), back, there)
	checkConforms(t, function(function(a, n), n), function(function(b, n), n), there, back)
	checkConforms(t, function(function(n, a), n), function(function(n, b), n), back, there)
	checkConforms(t, function(a, a), function(b, b), there && back, there && back)
	checkConforms(t, list(context("x", function(span(a), n))), list(context("x", function(span(b), n))), back, there)
}

func TestP133Simple(t *testing.T) {
	for _, j := range simpleKinds() {
		for _, k := range simpleKinds() {
			there := j == k || j == api.Null || k == api.Any
			back := j == k || k == api.Null || j == api.Any
			checkWithin(t, of(j), of(k), there, back)
		}
	}
	n := number()
	checkWithin(t, n, n, true, true)
	checkWithin(t, n, text(), false, false)
	checkWithin(t, n, anything(), true, false)
	checkWithin(t, null(), n, true, false)
	checkWithin(t, null(), anything(), true, false)
	checkWithin(t, null(), null(), true, true)
	checkWithin(t, anything(), anything(), true, true)
	checkWithin(t, of(api.Date), of(api.DateTime), false, false)
	checkWithin(t, of(api.Days), of(api.Months), false, false)
}

func TestP133NullAndAny(t *testing.T) {
	for _, x := range many() {
		checkConforms(t, null(), x, true, x.Kind == api.Null)
		checkConforms(t, x, anything(), true, x.Kind == api.Any)
		checkConforms(t, x, x, true, true)
	}
}

func TestP133UnlikeKinds(t *testing.T) {
	n := number()
	for i, x := range many() {
		for _, y := range many()[i:] {
			if x.Kind != y.Kind && x.Kind != api.Null && x.Kind != api.Any && y.Kind != api.Null && y.Kind != api.Any {
				checkConforms(t, x, y, false, false)
			}
		}
	}
	checkWithin(t, n, list(n), false, false)
	checkWithin(t, list(n), span(n), false, false)
	checkWithin(t, list(null()), span(null()), false, false)
	checkWithin(t, context(""), function(n), false, false)
	checkWithin(t, context(""), list(anything()), false, false)
}

func TestP133Lists(t *testing.T) {
	n := number()
	for _, of := range []func(api.Type) api.Type{list, span} {
		checkWithin(t, of(n), of(n), true, true)
		checkWithin(t, of(n), of(text()), false, false)
		checkWithin(t, of(null()), of(n), true, false)
		checkWithin(t, of(n), of(anything()), true, false)
		checkWithin(t, of(null()), of(anything()), true, false)
		checkWithin(t, of(of(null())), of(of(n)), true, false)
		checkWithin(t, of(null()), of(of(n)), true, false)
		checkWithin(t, of(of(n)), of(n), false, false)
	}
}

func TestP133Contexts(t *testing.T) {
	n, s := number(), text()
	ab := context("a b", n, s)
	for _, x := range []struct {
		a, b        api.Type
		there, back bool
	}{
		{context(""), context(""), true, true},
		{context("a", n), context(""), true, false},
		{ab, context("a", n), true, false},
		{ab, context("b", s), true, false},
		{ab, context("b", n), false, false},
		{ab, context("b a", s, n), true, true},
		{ab, context("a b", s, n), false, false},
		{ab, context("a c", n, s), false, false},
		{ab, context("a b c", n, s, n), false, true},
		{ab, context("c a b", null(), n, s), false, true},
		{ab, context("b c a", s, boolean(), n), false, true},
		{ab, context("a b", anything(), s), true, false},
		{ab, context("a b", n, anything()), true, false},
		{ab, context("a b", null(), s), false, true},
		{ab, context("a b", null(), null()), false, true},
		// One part conforms in the one way, another one in the other way alone.
		{ab, context("a b", anything(), null()), false, false},
		{ab, context("a b", null(), anything()), false, false},
		// One name less, and what stands by the other one conforms in the other way, or in that way.
		{ab, context("a", null()), false, false},
		{ab, context("a", anything()), true, false},
		{ab, context("a b c", n, anything(), n), false, false},
		{ab, context("a b c", n, null(), n), false, true},
		{context("a b c", n, anything(), n), context("a b", n, s), false, false},
		{context("a b", n, s), context("b c", s, n), false, false},
		{context("a", n), context("b", n), false, false},
		{context("a", n), context("A", n), false, false},
		{context("a", n), context("aa", n), false, false},
		{context("a", context("a b", n, n)), context("a", context("a", n)), true, false},
		{context("a", context("a", n)), context("a b", context("a b", n, n), n), false, true},
		{context("a b", context("a", n), n), context("a", context("a b", n, n)), false, false},
	} {
		checkWithin(t, x.a, x.b, x.there, x.back)
	}
	empty := api.Type{Kind: api.Context, Names: []string{""}, Items: []api.Type{n}}
	checkWithin(t, empty, context(""), true, false)
	checkWithin(t, empty, context("a", n), false, false)
	// Names are the same only byte by byte.
	named := func(name string) api.Type {
		return api.Type{Kind: api.Context, Names: []string{name}, Items: []api.Type{n}}
	}
	checkWithin(t, named("\u00e9"), named("e\u0301"), false, false)
	checkWithin(t, named("\xff"), named("\ufffd"), false, false)
	checkWithin(t, named("\xff"), named("\xff"), true, true)
}

func TestP133Functions(t *testing.T) {
	n, s, any1, none := number(), text(), anything(), null()
	for _, x := range []struct {
		a, b        api.Type
		there, back bool
	}{
		{function(n), function(n), true, true},
		{function(n), function(s), false, false},
		{function(n), function(any1), true, false},
		{function(none), function(n), true, false},
		{function(n, n), function(n, n), true, true},
		{function(n, n), function(s, n), false, false},
		// What it takes goes the other way round.
		{function(any1, n), function(s, any1), true, false},
		{function(any1, n), function(s, n), true, false},
		{function(n, n), function(none, n), true, false},
		{function(s, n), function(any1, any1), false, false},
		{function(any1, n), function(s, none), false, false},
		{function(none, n), function(s, any1), false, false},
		// One more, one less.
		{function(n), function(n, n), false, false},
		{function(n, n), function(n, n, n), false, false},
		{function(none), function(n, n), false, false},
		{function(none, none), function(any1), false, false},
		// Some parts conform in the one way, some in the other way alone.
		{function(any1, any1, n), function(n, s, n), true, false},
		{function(any1, n, n), function(n, any1, n), false, false},
		{function(n, any1, n), function(any1, n, n), false, false},
		{function(any1, s, n), function(n, n, n), false, false},
		{function(s, any1, n), function(n, n, n), false, false},
		{function(n, s, any1, n), function(n, s, boolean(), n), true, false},
		{function(any1, s, n, n), function(boolean(), s, n, any1), true, false},
		{function(n, s, n), function(s, n, n), false, false},
		{function(context("a", n), n), function(context("a b", n, n), n), true, false},
		{function(n, context("a b", n, n)), function(n, context("a", n)), true, false},
		{function(context("a", n), context("a b", n, n)), function(context("a b", n, n), context("a", n)), true, false},
		{function(context("a b", n, n), context("a b", n, n)), function(context("a", n), context("a", n)), false, false},
		// Within what it takes, twice round is the same way again.
		{function(function(n, n), n), function(function(any1, n), n), true, false},
		{function(function(n, any1), n), function(function(n, n), n), true, false},
		{function(list(any1), n), function(list(n), n), true, false},
	} {
		checkWithin(t, x.a, x.b, x.there, x.back)
	}
	// With many, each counts.
	const most = 100
	all := slices.Repeat([]api.Type{n}, most)
	for i := range most {
		other := slices.Clone(all)
		other[i] = any1
		last := i == most-1
		checkConforms(t, function(all...), function(other...), last, !last)
		other[i] = s
		checkConforms(t, function(all...), function(other...), false, false)
	}
}

func TestP133EachPair(t *testing.T) {
	for _, a := range many() {
		for _, b := range many() {
			checkConforms(t, a, b, conformsModel(a, b), conformsModel(b, a))
		}
	}
}

// What conforms to a second one conforms to whatever that conforms to.
func TestP133GoesOn(t *testing.T) {
	all := many()
	table := make([][]bool, len(all))
	for i, a := range all {
		for _, b := range all {
			table[i] = append(table[i], kinds.Conforms(a, b))
		}
	}
	for i := range all {
		for j := range all {
			for k := range all {
				if table[i][j] && table[j][k] && !table[i][k] {
					t.Errorf("%s conforms to %s, and that to %s", show(all[i]), show(all[j]), show(all[k]))
				}
			}
		}
	}
}

func TestP133ByTheWords(t *testing.T) {
	r := rand.New(rand.NewSource(133))
	var yes, no int
	for range 40000 {
		a := someType(r, 5)
		b := near(r, a)
		there, back := conformsModel(a, b), conformsModel(b, a)
		if there != back {
			yes++
		} else if !there {
			no++
		}
		checkConforms(t, a, b, there, back)
	}
	if yes < 5000 || no < 5000 {
		t.Error("the types tell little:", yes, no)
	}
}

func TestP133Same(t *testing.T) {
	n, s := number(), text()
	yes := func(a, b api.Type) { t.Helper(); checkConforms(t, a, b, true, true) }
	yes(context("a b c", n, s, n), context("c a b", n, n, s))
	yes(list(context("a b", n, context("c d", s, n))), list(context("b a", context("d c", n, s), n)))
	yes(function(context("a b", n, s), context("a b", n, s)), function(context("b a", s, n), context("b a", s, n)))
	for _, x := range [][2]api.Type{{n, s}, {n, anything()}, {null(), n}, {null(), anything()}, {list(n), n}, {context("a", n), context("")}, {list(n), list(null())}, {function(n), function(n, n)}, {list(n), span(n)}} {
		if kinds.Same(x[0], x[1]) || kinds.Same(x[1], x[0]) {
			t.Error(x)
		}
	}
}

func deepPair(deep int, around func(api.Type) api.Type, a, b api.Type) (api.Type, api.Type) {
	return nest(deep, a, around), nest(deep, b, around)
}

func TestP133Deep(t *testing.T) {
	n := number()
	for sides, around := range arounds() {
		// What a function takes turns the ways round, once for each function that stands around it.
		turns := sides[0] == "function<" || sides[0] == "function<Any, "
		for _, deep := range []int{1, 2, 999, 1000, deepest - 2} {
			turned := turns && deep%2 == 1
			a, b := deepPair(deep, around, n, anything())
			checkConforms(t, a, b, !turned, turned)
		}
		for _, deep := range []int{999, 1000} {
			turned := turns && deep%2 == 1
			a, b := deepPair(deep, around, n, n)
			checkConforms(t, a, b, true, true)
			a, b = deepPair(deep, around, n, text())
			checkConforms(t, a, b, false, false)
			a, b = deepPair(deep, around, null(), n)
			checkConforms(t, a, b, !turned, turned)
			// One more around the one.
			a, b = deepPair(deep, around, around(n), n)
			checkConforms(t, a, b, false, false)
		}
	}
}

func wide(order func(int) int, item func(int) api.Type) api.Type {
	out := api.Type{Kind: api.Context}
	for i := range deepest {
		k := order(i)
		out.Names, out.Items = append(out.Names, "name "+strconv.Itoa(k)), append(out.Items, item(k))
	}
	return out
}

func upwards(i int) int { return i }

func downwards(i int) int { return deepest - 1 - i }

func TestP133Wide(t *testing.T) {
	n := func(int) api.Type { return number() }
	a, b := wide(upwards, n), wide(downwards, n)
	checkConforms(t, a, b, true, true)
	for _, i := range []int{0, 1, deepest / 2, deepest - 1} {
		b.Items[i] = anything()
		checkConforms(t, a, b, true, false)
		checkConforms(t, function(a.Items...), function(b.Items...), i == deepest-1, i != deepest-1)
		b.Items[i] = text()
		checkConforms(t, a, b, false, false)
		b.Items[i] = number()
		name := b.Names[i]
		b.Names[i] = "another"
		checkConforms(t, a, b, false, false)
		b.Names[i] = name
	}
	b.Names, b.Items = b.Names[1:], b.Items[1:]
	checkConforms(t, a, b, true, false)
	b.Names, b.Items = nil, nil
	checkConforms(t, a, b, true, false)
}

func checkEntry(t *testing.T, x api.Type, name string, want api.Type, has bool) {
	t.Helper()
	got, ok := kinds.Entry(x, name)
	if ok != has || !same(got, want) {
		t.Errorf("Entry(%s, %q) = %s, %v", show(x), name, show(got), ok)
	}
}

func TestP133Entry(t *testing.T) {
	n, s := number(), text()
	x := context("a b c", n, list(s), context("a d", s, n))
	checkEntry(t, x, "a", n, true)
	checkEntry(t, x, "b", list(s), true)
	checkEntry(t, x, "c", context("a d", s, n), true)
	for _, name := range []string{"", "d", "A", "aa", " a", "a ", "a b", "ab", "\"a\"", "\x00", "\xff"} {
		checkEntry(t, x, name, api.Type{}, false)
	}
	for _, name := range []string{"", "a", "item"} {
		checkEntry(t, context(""), name, api.Type{}, false)
	}
	names := []string{"", "\xff", "\ufffd", "\u00e9", "e\u0301", "order date", "\""}
	odd := api.Type{Kind: api.Context, Names: names}
	for i := range names {
		odd.Items = append(odd.Items, nest(i, n, list))
	}
	for i, name := range names {
		checkEntry(t, odd, name, nest(i, n, list), true)
	}
	checkEntry(t, odd, "\xfe", api.Type{}, false)
	// What it has by a name may be Null, or anything.
	checkEntry(t, context("a b", null(), anything()), "a", null(), true)
	checkEntry(t, context("a b", null(), anything()), "b", anything(), true)
}

// Only a context has entries: what is in another type, contexts also, is not asked.
func TestP133EntryOfNoContext(t *testing.T) {
	in := context("a", number())
	for _, x := range many() {
		if x.Kind != api.Context {
			for _, name := range []string{"", "a", "b", "item", "start"} {
				checkEntry(t, x, name, api.Type{}, false)
			}
		}
	}
	for _, x := range []api.Type{list(in), span(in), function(in), function(in, in)} {
		checkEntry(t, x, "a", api.Type{}, false)
	}
	// Nor of what is no type, but for Names that no context has.
	for k := api.Kind(-1); k <= 20; k++ {
		if k != api.Context {
			checkEntry(t, api.Type{Kind: k, Names: []string{"a"}, Items: []api.Type{number()}}, "a", api.Type{}, false)
		}
	}
}

func TestP133EntryIsItsOwn(t *testing.T) {
	for _, x := range many() {
		entry := func(given []api.Type) api.Type {
			got, ok := kinds.Entry(given[0], "a")
			if !ok {
				t.Errorf("%s has no entry", show(given[0]))
			}
			return got
		}
		checkOwn(t, "Entry", x, entry, context("b a c", number(), x, text()))
	}
}

func TestP133EntryWideAndDeep(t *testing.T) {
	x := wide(downwards, func(i int) api.Type { return nest(i%3, number(), list) })
	for _, i := range []int{0, 1, 2, deepest / 2, deepest - 1} {
		checkEntry(t, x, "name "+strconv.Itoa(i), nest(i%3, number(), list), true)
	}
	checkEntry(t, x, "name "+strconv.Itoa(deepest), api.Type{}, false)
	for _, around := range arounds() {
		in := nest(deepest-2, number(), around)
		checkEntry(t, context("a b", text(), in), "b", in, true)
	}
}
