package kinds_test

import (
	"math/rand"
	"slices"
	"strconv"
	"testing"

	"casuist/api"
	"casuist/kinds"
)

func checkMay(t *testing.T, x api.Type, want bool) {
	t.Helper()
	if got := kinds.May(x); got != want {
		t.Errorf("May(%s) = %v", show(x), got)
	}
}

// checkMayEverywhere holds it also of types in which that one stands, alone and beside others.
func checkMayEverywhere(t *testing.T, x api.Type, want bool) {
	t.Helper()
	checkMay(t, x, want)
	n := number()
	for _, outer := range []api.Type{
		list(x), span(x), list(list(span(list(x)))),
		context("a", x), context("a b c", x, n, n), context("a b c", n, x, n), context("a b c", n, n, x),
		function(x), function(x, n), function(n, x), function(x, n, n), function(n, x, n), function(n, n, x),
		list(context("a b", n, function(n, span(context("a", function(x, n)))))),
	} {
		checkMay(t, outer, want)
	}
}

func TestP131Simple(t *testing.T) {
	for _, k := range simpleKinds() {
		if !kinds.Simple(k) {
			t.Error(k)
		}
	}
	for _, k := range append(noKinds(), api.List, api.Context, api.Range, api.Function) {
		if kinds.Simple(k) {
			t.Error(k)
		}
	}
	for k := api.Kind(-300); k <= 300; k++ {
		if kinds.Simple(k) != slices.Contains(simpleKinds(), k) {
			t.Error(k)
		}
	}
}

func TestP131MaySimple(t *testing.T) {
	for _, k := range simpleKinds() {
		checkMayEverywhere(t, of(k), true)
		checkMay(t, api.Type{Kind: k, Items: []api.Type{}, Names: []string{}}, true)
		checkMayEverywhere(t, api.Type{Kind: k, Items: []api.Type{number()}}, false)
		checkMay(t, api.Type{Kind: k, Items: []api.Type{number(), number()}}, false)
		checkMayEverywhere(t, api.Type{Kind: k, Names: []string{"a"}}, false)
		checkMay(t, api.Type{Kind: k, Names: []string{""}}, false)
		checkMay(t, api.Type{Kind: k, Names: []string{"a"}, Items: []api.Type{number()}}, false)
	}
}

func TestP131MayOfNoKind(t *testing.T) {
	checkMayEverywhere(t, api.Type{}, false)
	for _, k := range noKinds() {
		checkMayEverywhere(t, of(k), false)
		for n := range 3 {
			items := slices.Repeat([]api.Type{number()}, n)
			checkMay(t, api.Type{Kind: k, Items: items}, false)
			checkMay(t, api.Type{Kind: k, Items: items, Names: []string{"a", "b", "c"}[:n]}, false)
		}
	}
}

func TestP131MayListsAndRanges(t *testing.T) {
	for _, k := range []api.Kind{api.List, api.Range} {
		checkMayEverywhere(t, of(k), false)
		checkMay(t, api.Type{Kind: k, Items: []api.Type{}}, false)
		for _, item := range many() {
			checkMay(t, api.Type{Kind: k, Items: []api.Type{item}}, true)
			checkMay(t, api.Type{Kind: k, Items: []api.Type{item}, Names: []string{}}, true)
			checkMay(t, api.Type{Kind: k, Items: []api.Type{item, item}}, false)
			checkMay(t, api.Type{Kind: k, Items: []api.Type{item}, Names: []string{"a"}}, false)
			checkMay(t, api.Type{Kind: k, Items: []api.Type{item}, Names: []string{""}}, false)
		}
		checkMayEverywhere(t, api.Type{Kind: k, Items: []api.Type{number(), number()}}, false)
		checkMayEverywhere(t, api.Type{Kind: k, Items: []api.Type{number()}, Names: []string{"a"}}, false)
		checkMay(t, api.Type{Kind: k, Items: []api.Type{number(), text()}, Names: []string{"a", "b"}}, false)
		checkMay(t, api.Type{Kind: k, Names: []string{"a"}}, false)
	}
}

func TestP131MayContexts(t *testing.T) {
	n := number()
	checkMayEverywhere(t, context(""), true)
	checkMay(t, api.Type{Kind: api.Context, Items: []api.Type{}, Names: []string{}}, true)
	checkMayEverywhere(t, context("a b", n, text()), true)
	for _, item := range many() {
		checkMay(t, context("a", item), true)
		checkMay(t, context("a b", item, item), true)
	}
	checkMayEverywhere(t, context("a"), false)
	checkMayEverywhere(t, context("", n), false)
	checkMayEverywhere(t, context("a b", n), false)
	checkMayEverywhere(t, context("a", n, n), false)
	checkMay(t, context("a b c d", n, n, n), false)
	checkMay(t, context("a b c", n, n, n, n), false)
}

// Any text is a name, also an empty one, and one that is not UTF-8; two are the same only if all their bytes are.
func TestP131MayNames(t *testing.T) {
	n := number()
	names := func(names ...string) api.Type {
		return api.Type{Kind: api.Context, Names: names, Items: slices.Repeat([]api.Type{n}, len(names))}
	}
	for _, x := range [][]string{{""}, {"", " "}, {"a", "A"}, {"a", "a "}, {"a", "aa"}, {"\u00e9", "e\u0301"}, {"\xff"}, {"\xff", "\xfe"}, {"\xff", "\ufffd"}, {"\x00", ""}, {"a\x00", "a"}, {"item", "number", "null"}} {
		checkMay(t, names(x...), true)
	}
	for _, x := range [][]string{{"", ""}, {"a", "a"}, {"\xff", "\xff"}, {"a", "b", "a"}, {"b", "a", "a"}, {"a", "a", "b"}, {"a", "a", "a"}, {"a", "b", "a", "b"}, {"", "a", "b", "c", "d", ""}, {"order date", "price", "order date"}} {
		checkMayEverywhere(t, names(x...), false)
	}
	// With what stands by a name twice it is the same, whatever that is.
	checkMay(t, context("a a", n, text()), false)
	checkMay(t, context("a b a", n, n, text()), false)
	checkMay(t, context("a a", n), false)
	checkMay(t, context("a", context("b b", n, n)), false)
	checkMay(t, context("a b", context("a b", n, n), context("a b", n, n)), true)
}

func TestP131MayFunctions(t *testing.T) {
	n := number()
	checkMayEverywhere(t, function(), false)
	checkMay(t, api.Type{Kind: api.Function, Items: []api.Type{}}, false)
	for _, item := range many() {
		checkMay(t, function(item), true)
		checkMay(t, function(item, item), true)
		checkMay(t, function(n, item, text()), true)
		checkMay(t, api.Type{Kind: api.Function, Items: []api.Type{item}, Names: []string{"a"}}, false)
	}
	checkMay(t, function(slices.Repeat([]api.Type{n}, 1000)...), true)
	checkMayEverywhere(t, api.Type{Kind: api.Function, Items: []api.Type{n, n}, Names: []string{"a"}}, false)
	checkMayEverywhere(t, api.Type{Kind: api.Function, Items: []api.Type{n, n}, Names: []string{"a", "b"}}, false)
	checkMay(t, api.Type{Kind: api.Function, Names: []string{"a"}}, false)
}

func TestP131MayByTheWords(t *testing.T) {
	r := rand.New(rand.NewSource(131))
	yes := 0
	for range 200000 {
		x := anyShape(r, r.Intn(4))
		want := mayModel(x)
		if want {
			yes++
		}
		checkMay(t, x, want)
	}
	if yes < 10000 || yes > 190000 {
		t.Error("the shapes tell little:", yes)
	}
	for range 20000 {
		checkMay(t, someType(r, 5), true)
	}
}

func TestP131MayDeep(t *testing.T) {
	for _, around := range arounds() {
		checkMay(t, nest(deepest-1, number(), around), true)
		checkMay(t, nest(deepest-1, api.Type{}, around), false)
		checkMay(t, nest(deepest-1, list(number()), around), true)
		checkMay(t, nest(deepest-1, of(api.List), around), false)
		// What is wrong may also stand outside, or midway.
		checkMay(t, context("a a", number(), nest(deepest-1, number(), around)), false)
		checkMay(t, nest(deepest/2, function(number(), context("a"), nest(deepest/2-1, number(), around)), around), false)
	}
}

func TestP131MayWide(t *testing.T) {
	wide := api.Type{Kind: api.Context}
	for i := range deepest {
		wide.Names = append(wide.Names, "name "+strconv.Itoa(i))
		wide.Items = append(wide.Items, number())
	}
	checkMay(t, wide, true)
	wide.Items[deepest-1] = api.Type{}
	checkMay(t, wide, false)
	wide.Items[deepest-1] = text()
	checkMay(t, wide, true)
	wide.Names[deepest-1] = "name 0"
	checkMay(t, wide, false)
	wide.Names[deepest-1] = "name 32768"
	checkMay(t, wide, false)
	wide.Names[deepest-1] = "name " + strconv.Itoa(deepest-2)
	checkMay(t, wide, false)
	checkMay(t, function(wide.Items...), true)
}

func checkIs(t *testing.T, what string, got, want api.Type) {
	t.Helper()
	if !same(got, want) {
		t.Errorf("%s is %s, not %s", what, show(got), show(want))
	}
}

func TestP131Of(t *testing.T) {
	for _, k := range simpleKinds() {
		got := kinds.Of(k)
		checkIs(t, "Of", got, api.Type{Kind: k})
		checkMay(t, got, true)
	}
	// Of a context's kind that is the type of one without names; of the others none.
	checkIs(t, "Of(Context)", kinds.Of(api.Context), context(""))
	for _, k := range append(noKinds(), api.List, api.Range, api.Function) {
		checkMay(t, kinds.Of(k), false)
	}
}

func TestP131ListOfAndRangeOf(t *testing.T) {
	for _, x := range many() {
		checkIs(t, "ListOf", kinds.ListOf(x), api.Type{Kind: api.List, Items: []api.Type{x}})
		checkIs(t, "RangeOf", kinds.RangeOf(x), api.Type{Kind: api.Range, Items: []api.Type{x}})
		checkMay(t, kinds.ListOf(x), true)
		checkMay(t, kinds.RangeOf(x), true)
	}
	checkIs(t, "ListOf(RangeOf)", kinds.ListOf(kinds.RangeOf(number())), list(span(number())))
}

func TestP131FuncOf(t *testing.T) {
	n, s := number(), text()
	checkIs(t, "FuncOf", kinds.FuncOf(s), function(s))
	checkIs(t, "FuncOf", kinds.FuncOf(s, []api.Type{}...), function(s))
	checkIs(t, "FuncOf", kinds.FuncOf(s, n), function(n, s))
	checkIs(t, "FuncOf", kinds.FuncOf(s, n, boolean()), function(n, boolean(), s))
	checkIs(t, "FuncOf", kinds.FuncOf(n, n, n, n), function(n, n, n, n))
	for _, x := range many() {
		checkIs(t, "FuncOf", kinds.FuncOf(x), function(x))
		checkIs(t, "FuncOf", kinds.FuncOf(x, n, x, s), function(n, x, s, x))
		checkMay(t, kinds.FuncOf(x, x, x), true)
	}
	takes := slices.Repeat([]api.Type{n}, deepest)
	takes[7] = s
	got := kinds.FuncOf(boolean(), takes...)
	checkIs(t, "FuncOf of many", got, function(append(slices.Clone(takes), boolean())...))
}

// What the calls make stands in memory of its own: what they get may be changed afterwards, and what they answer as well, part by part.
func TestP131MadeIsItsOwn(t *testing.T) {
	for _, x := range many() {
		for what, make := range map[string]func(x, y, z api.Type) api.Type{
			"ListOf":  func(x, y, z api.Type) api.Type { return kinds.ListOf(x) },
			"RangeOf": func(x, y, z api.Type) api.Type { return kinds.RangeOf(x) },
			"FuncOf":  func(x, y, z api.Type) api.Type { return kinds.FuncOf(x, y, z) },
		} {
			want := clone(make(x, x, x))
			checkOwn(t, what, want, func(got []api.Type) api.Type { return make(got[0], got[1], got[2]) }, x, x, x)
		}
	}
}

// checkOwn makes something of types, and holds that it is as wanted, that they stay as they are, also what stands behind them in their memory, and that neither they nor two parts of the answer share any.
func checkOwn(t *testing.T, what string, want api.Type, make func([]api.Type) api.Type, from ...api.Type) {
	t.Helper()
	var given []api.Type
	var behind [][]string
	for _, x := range from {
		given = append(given, roomy(x))
	}
	for _, x := range given {
		behind = append(behind, room(x))
	}
	got := make(given)
	checkIs(t, what, got, want)
	for i, x := range given {
		if !same(x, from[i]) || !slices.Equal(room(x), behind[i]) {
			t.Errorf("%s changed what it got: %s, not %s", what, show(x), show(from[i]))
		}
		spoil(x)
	}
	checkIs(t, what+", when what it got has changed,", got, want)
	checkParts(t, what, got)
}

// checkParts holds that no two lists of a type share memory: what is done to one, and behind it, is not to be seen in another one.
func checkParts(t *testing.T, what string, got api.Type) {
	t.Helper()
	for i := range got.Items {
		kept := clone(got)
		spoil(got.Items[i])
		for k := range got.Items {
			if k != i {
				checkIs(t, what+", when another part has changed,", got.Items[k], kept.Items[k])
			}
		}
		if !slices.Equal(got.Names, kept.Names) || got.Items[i].Kind != kept.Items[i].Kind {
			t.Errorf("%s: what a part has was changed, and so was what it stands in", what)
		}
		got.Items[i] = clone(kept.Items[i])
	}
}

func TestP131FuncOfKeepsNothing(t *testing.T) {
	n, s := number(), text()
	takes := append(make([]api.Type, 0, 4), n, list(n))
	behind := takes[:4]
	got := kinds.FuncOf(s, takes...)
	if behind[2].Kind != 0 || behind[3].Kind != 0 {
		t.Error("what stands behind what it takes was changed:", behind)
	}
	takes[0], takes[1].Items[0] = s, s
	checkIs(t, "FuncOf", got, function(n, list(n), s))
	got.Items[1] = boolean()
	if !same(takes[1], list(s)) {
		t.Error(takes)
	}
	// One list of types, named twice.
	both := []api.Type{context("a", n), context("a", n)}
	both[1] = both[0]
	twice := kinds.FuncOf(both[0], both...)
	twice.Items[0].Names[0], twice.Items[0].Items[0] = "b", s
	checkIs(t, "FuncOf", twice, function(context("b", s), context("a", n), context("a", n)))
}

func TestP131MadeDeep(t *testing.T) {
	for _, around := range arounds() {
		x := nest(deepest-2, number(), around)
		checkIs(t, "ListOf", kinds.ListOf(x), list(x))
		checkIs(t, "RangeOf", kinds.RangeOf(x), span(x))
		checkIs(t, "FuncOf", kinds.FuncOf(x, x), function(x, x))
	}
}
