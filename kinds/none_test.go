package kinds_test

import (
	"math/rand"
	"testing"

	"casuist/api"
	"casuist/kinds"
)

// askAll makes each call of some shapes, types or not, and holds that they stay as they are.
func askAll(t *testing.T, a, b api.Type) {
	t.Helper()
	wantA, wantB := clone(a), clone(b)
	defer func() {
		if p := recover(); p != nil {
			t.Errorf("of %s and %s a call panics: %v", show(wantA), show(wantB), p)
		}
	}()
	kinds.Simple(a.Kind)
	kinds.Word(a.Kind)
	kinds.Of(a.Kind)
	kinds.May(a)
	kinds.Text(a)
	for _, name := range append(someNames(), "zz") {
		got, ok := kinds.Entry(a, name)
		if !ok && !same(got, api.Type{}) {
			t.Errorf("Entry(%s, %q) answers %s beside a false", show(wantA), name, show(got))
		}
	}
	for _, got := range []api.Type{kinds.ListOf(a), kinds.RangeOf(a), kinds.FuncOf(a), kinds.FuncOf(a, b), kinds.FuncOf(b, a, a), kinds.Join(a, b), kinds.Join(b, a), kinds.All(a), kinds.All(a, b), kinds.All(b, a, b)} {
		spoil(got)
	}
	kinds.Conforms(a, b)
	kinds.Conforms(b, a)
	kinds.Same(a, b)
	kinds.Meets(a, b)
	if !same(a, wantA) || !same(b, wantB) {
		t.Errorf("%s or %s has changed: %s, %s", show(wantA), show(wantB), show(a), show(b))
	}
}

// bad are Types that are none.
func bad() []api.Type {
	n := number()
	out := []api.Type{
		of(api.List), of(api.Range), of(api.Function), context("a"), context("a b c"), context("a b", n), context("", n), context("a", n, n, n), context("a a", n, n), context("a b a", n, text(), text()),
		{Kind: api.List, Items: []api.Type{n, n}}, {Kind: api.Range, Items: []api.Type{n, text(), n}}, {Kind: api.List, Names: []string{"a"}, Items: []api.Type{n}}, {Kind: api.Function, Names: []string{"a", "b"}, Items: []api.Type{n}},
		{Kind: api.Range, Names: []string{"a"}}, {Kind: api.Function, Names: []string{"a"}},
	}
	for _, k := range append(noKinds(), simpleKinds()...) {
		out = append(out, api.Type{Kind: k, Items: []api.Type{n}}, api.Type{Kind: k, Names: []string{"a"}}, api.Type{Kind: k, Items: []api.Type{n}, Names: []string{"a"}}, api.Type{Kind: k, Items: []api.Type{}, Names: []string{}})
	}
	for _, k := range noKinds() {
		out = append(out, of(k))
	}
	return out
}

func TestW1NoTypes(t *testing.T) {
	all := bad()
	for _, x := range bad() {
		all = append(all, list(x), context("a b", number(), x), function(x, number()), function(number(), x))
	}
	for _, a := range all {
		for _, b := range append(few(), bad()...) {
			askAll(t, a, b)
		}
	}
}

func TestW1AnyShapes(t *testing.T) {
	r := rand.New(rand.NewSource(1))
	for range 30000 {
		a := anyShape(r, r.Intn(4))
		b := anyShape(r, r.Intn(4))
		if r.Intn(2) == 0 {
			b = clone(a)
			b.Kind = pick(r, []api.Kind{a.Kind, api.List, api.Context, api.Range, api.Function})
		}
		askAll(t, a, b)
	}
}

func TestW1NoTypesDeep(t *testing.T) {
	for _, around := range arounds() {
		for _, in := range []api.Type{{}, of(api.List), of(api.Function), context("a")} {
			x := nest(1000, in, around)
			askAll(t, x, x)
		}
	}
	askAll(t, nest(deepest-1, of(api.List), list), nest(deepest-1, of(api.Function), list))
	// Contexts with more names than there is behind them, one in another one.
	x := nest(deepest-1, number(), func(t api.Type) api.Type { return context("a b", t) })
	askAll(t, x, nest(deepest-1, number(), func(t api.Type) api.Type { return context("b a c", t, number()) }))
}

func TestW1NilLists(t *testing.T) {
	var none []api.Type
	checkIs(t, "FuncOf", kinds.FuncOf(number(), none...), function(number()))
	checkIs(t, "All", kinds.All(none...), null())
	empty := api.Type{Kind: api.Context, Items: []api.Type{}, Names: []string{}}
	bare := api.Type{Kind: api.Context}
	checkMay(t, bare, true)
	checkConforms(t, empty, bare, true, true)
	checkBoth(t, empty, bare, bare)
	checkText(t, empty, kinds.Text(bare))
	checkEntry(t, bare, "", api.Type{}, false)
}

// What is asked again is answered again the same: nothing is kept.
func TestW2AskedAgain(t *testing.T) {
	r := rand.New(rand.NewSource(2))
	for range 2000 {
		a := someType(r, 4)
		b := near(r, a)
		join, s := kinds.Join(a, b), kinds.Text(a)
		kept := clone(join)
		spoil(join)
		kinds.All(b, a, anything())
		checkIs(t, "Join, asked again,", kinds.Join(a, b), kept)
		checkText(t, a, s)
	}
}
