package member_test

import (
	"math"
	"math/rand"
	"strconv"
	"testing"

	"casuist/api"
	"casuist/kinds"
	"casuist/member"
	"casuist/value"
)

// ask makes each call of a value and a shape, a type or not, and holds that both stay as they are.
func ask(t *testing.T, x thing, v value.Value, of api.Type) {
	t.Helper()
	before := clone(of)
	defer func() {
		if p := recover(); p != nil {
			t.Errorf("of %s and %s a call panics: %v", picture(x), show(before), p)
		}
	}()
	is, instance := member.Is(v, of), member.Instance(v, of)
	spoil(member.Of(v))
	if !same(of, before) {
		t.Errorf("%s has become %s", show(before), show(of))
	}
	if is != member.Is(v, of) || instance != member.Instance(v, of) {
		t.Errorf("of %s and %s not the same is answered twice", picture(x), show(before))
	}
	if own := member.Of(v); !same(own, ofModel(x)) {
		t.Errorf("Of(%s), asked again, = %s", picture(x), show(own))
	}
}

// bad are Types that are none.
func bad() []api.Type {
	n := numbers()
	out := []api.Type{
		of(api.List), of(api.Range), of(api.Function), contextOf("a"), contextOf("a b c"), contextOf("a b", n), contextOf("", n), contextOf("a", n, n, n), contextOf("a a", n, n), contextOf("a b a", n, texts(), texts()),
		{Kind: api.List, Items: []api.Type{n, n}}, {Kind: api.Range, Items: []api.Type{n, texts(), n}}, {Kind: api.List, Names: []string{"a"}, Items: []api.Type{n}}, {Kind: api.Function, Names: []string{"a", "b"}, Items: []api.Type{n}},
		{Kind: api.Range, Names: []string{"a"}}, {Kind: api.Function, Names: []string{"a"}},
	}
	for _, k := range append(noKinds(), simpleKinds()...) {
		out = append(out, api.Type{Kind: k, Items: []api.Type{n}}, api.Type{Kind: k, Names: []string{"a"}}, api.Type{Kind: k, Items: []api.Type{n}, Names: []string{"a"}}, api.Type{Kind: k, Items: []api.Type{}, Names: []string{}})
	}
	for _, k := range noKinds() {
		out = append(out, of(k))
	}
	return out
}

func TestW1NoTypes(t *testing.T) {
	all := bad()
	for _, x := range bad() {
		all = append(all, listOf(x), rangeOf(x), contextOf("a b", numbers(), x), contextOf("a", x), functionOf(x, numbers()), functionOf(numbers(), x))
	}
	for _, x := range things() {
		v := x.made()
		for _, u := range all {
			ask(t, x, v, u)
		}
	}
}

func TestW1AnyShapes(t *testing.T) {
	r := rand.New(rand.NewSource(1))
	for range 20000 {
		x := someThing(r, 4)
		u := anyShape(r, r.Intn(4))
		if r.Intn(2) == 0 {
			u.Kind = x.kind
		}
		ask(t, x, x.made(), u)
	}
}

func TestW1NoTypesDeep(t *testing.T) {
	for _, w := range deepOnes() {
		for _, in := range append(bad()[:20:20], api.Type{}) {
			for _, leaf := range []thing{null(), number(1), list(number(1)), context("a", number(1)), function(0)} {
				x := nest(100, leaf, w.thing)
				ask(t, x, x.made(), nest(100, in, w.of))
				ask(t, x, x.made(), nest(101, in, w.of))
			}
		}
	}
	x := nest(deepest-1, number(1), func(x thing) thing { return list(x) }).made()
	for _, u := range []api.Type{nest(deepest-1, of(api.List), listOf), nest(deepest-2, contextOf("a"), listOf)} {
		before := clone(u)
		member.Is(x, u)
		member.Instance(x, u)
		if !same(u, before) {
			t.Error("a type has changed")
		}
	}
	// Contexts with more names than there is behind them, one in another one.
	x = nest(deepest-1, number(1), func(x thing) thing { return context("a b", x, null()) }).made()
	member.Is(x, nest(deepest-1, numbers(), func(t api.Type) api.Type { return contextOf("a b", t) }))
	member.Is(x, nest(deepest-1, numbers(), func(t api.Type) api.Type { return contextOf("b a b") }))
}

// A function that takes fewer than none, or more than any answer can tell, is of a type all the same.
func TestW1FunctionsOfAnyNumber(t *testing.T) {
	for _, takes := range []int{-1, -2, -1 << 40, (1<<31 - 1) / 56, 1 << 26, 1 << 31, 1 << 40, 1 << 58, math.MinInt, math.MaxInt, math.MaxInt - 1} {
		f := value.Func(nil, takes)
		for _, v := range []value.Value{f, value.List(f, f), value.List(f, value.Func(nil, 1)), value.Context([]string{"a"}, []value.Value{f})} {
			own := member.Of(v)
			if !kinds.May(own) || !member.Is(v, own) || !member.Is(v, of(api.Any)) || member.Is(v, of(api.Null)) {
				t.Errorf("with a function that takes %d: %s", takes, show(own))
			}
		}
		for _, u := range bad() {
			member.Is(f, u)
			member.Instance(f, u)
		}
	}
}

// Functions that all together take more than an answer can tell leave a type all the same, and no memory is taken for what is not told.
func TestW1ManyFunctionsOfMany(t *testing.T) {
	for _, takes := range []int{1 << 23, 1 << 25, 1 << 50, 1 << 62, math.MaxInt} {
		var names []string
		var items []value.Value
		for i := range 100 {
			names, items = append(names, strconv.Itoa(i)), append(items, value.List(value.Func(nil, takes)))
		}
		for _, most := range []int{5, 6, 100} {
			v := value.Context(names[:most], items[:most])
			if own := member.Of(v); !same(own, of(api.Any)) {
				t.Errorf("of %d functions that take %d: kind %d with %d items", most, takes, own.Kind, len(own.Items))
			}
		}
	}
	// One more than there is room for, at once or all together.
	const most = (1<<31 - 1) / 56
	first := value.Func(nil, most-1)
	for _, v := range []value.Value{value.Func(nil, most), value.List(value.Func(nil, most)), value.Context([]string{"a", "b"}, []value.Value{first, value.Func(nil, 0)}), value.Context([]string{"a", "b"}, []value.Value{value.Func(nil, 0), first})} {
		if own := member.Of(v); !same(own, of(api.Any)) {
			t.Errorf("of too many: kind %d with %d items", own.Kind, len(own.Items))
		}
	}
	const few = 1 << 16
	f := value.Func(nil, few)
	v := value.Context([]string{"a", "b", "c"}, []value.Value{f, value.List(f, f), f})
	if own := member.Of(v); !same(own, contextOf("a b c", taking(few), listOf(taking(few)), taking(few))) {
		t.Errorf("of three functions that take %d: kind %d with %d items", few, own.Kind, len(own.Items))
	}
}

func TestW1NilLists(t *testing.T) {
	nilList, empty := value.List(), value.Context(nil, nil)
	bare := api.Type{Kind: api.Context, Items: []api.Type{}, Names: []string{}}
	for _, u := range []api.Type{bare, of(api.Context)} {
		if !member.Is(empty, u) || !member.Instance(empty, u) || member.Is(nilList, u) {
			t.Error("of a context without names")
		}
	}
	if got := member.Of(empty); !same(got, bare) {
		t.Error(show(got))
	}
	if got := member.Of(nilList); !same(got, listOf(of(api.Null))) || !member.Is(nilList, listOf(texts())) {
		t.Error(show(got))
	}
}
