package member_test

import (
	"fmt"
	"math/rand"
	"slices"
	"strconv"
	"strings"
	"testing"

	"casuist/api"
	"casuist/member"
	"casuist/value"
)

func of(k api.Kind) api.Type { return api.Type{Kind: k} }

func numbers() api.Type { return of(api.Number) }

func texts() api.Type { return of(api.String) }

func anything() api.Type { return of(api.Any) }

func listOf(t api.Type) api.Type { return api.Type{Kind: api.List, Items: []api.Type{t}} }

func rangeOf(t api.Type) api.Type { return api.Type{Kind: api.Range, Items: []api.Type{t}} }

// contextOf is a type of names, with a blank between each, and of what stands by each.
func contextOf(names string, items ...api.Type) api.Type {
	return api.Type{Kind: api.Context, Names: strings.Fields(names), Items: items}
}

// functionOf is the type of a function that gives the last one, and takes the others.
func functionOf(parts ...api.Type) api.Type {
	return api.Type{Kind: api.Function, Items: parts}
}

// taking is the own type of a function that takes so many.
func taking(n int) api.Type {
	return functionOf(slices.Repeat([]api.Type{anything()}, n+1)...)
}

// same tells whether two types are the very same, part by part; a list without things is nil or empty.
func same(a, b api.Type) bool {
	return a.Kind == b.Kind && slices.Equal(a.Names, b.Names) && slices.EqualFunc(a.Items, b.Items, same)
}

// show is a type for a complaint, or the beginning of it.
func show(t api.Type) string {
	var out strings.Builder
	showIn(&out, t)
	s := out.String()
	return s[:min(len(s), 300)]
}

func showIn(out *strings.Builder, t api.Type) {
	if out.Len() > 300 {
		return
	}
	out.WriteString(strconv.Itoa(int(t.Kind)))
	if len(t.Names) > 0 {
		fmt.Fprintf(out, "%q", t.Names[:min(len(t.Names), 20)])
	}
	for i, item := range t.Items {
		out.WriteString(map[bool]string{true: "{", false: " "}[i == 0])
		showIn(out, item)
	}
	if len(t.Items) > 0 {
		out.WriteString("}")
	}
}

// picture is a thing for a complaint, or the beginning of it.
func picture(x thing) string {
	var out strings.Builder
	pictureIn(&out, x)
	s := out.String()
	return s[:min(len(s), 300)]
}

func pictureIn(out *strings.Builder, x thing) {
	if out.Len() > 300 {
		return
	}
	fmt.Fprintf(out, "%d", x.kind)
	if x.kind == api.Function {
		fmt.Fprintf(out, "/%d", x.takes)
	}
	for i, item := range x.items {
		out.WriteString(map[bool]string{true: "[", false: " "}[i == 0])
		if x.kind == api.Context {
			fmt.Fprintf(out, "%q: ", x.names[i])
		}
		pictureIn(out, item)
	}
	if len(x.items) > 0 {
		out.WriteString("]")
	}
}

// clone is a type in memory of its own.
func clone(t api.Type) api.Type {
	out := api.Type{Kind: t.Kind, Names: append([]string(nil), t.Names...)}
	for _, item := range t.Items {
		out.Items = append(out.Items, clone(item))
	}
	return out
}

// spoil makes everything that a type is made of something else, in its own memory, and behind it as far as its memory goes.
func spoil(t api.Type) {
	items, names := t.Items[:cap(t.Items)], t.Names[:cap(t.Names)]
	for i := range items {
		spoil(items[i])
		items[i] = api.Type{Kind: 99}
	}
	for i := range names {
		names[i] = "spoilt"
	}
}

// few are types of each kind, with at most one other one in each.
func few() []api.Type {
	var out []api.Type
	for _, k := range simpleKinds() {
		out = append(out, of(k))
	}
	out = append(out, contextOf(""))
	for _, t := range inner() {
		out = append(out, listOf(t), rangeOf(t), contextOf("a", t), contextOf("b", t), functionOf(t), functionOf(t, numbers()), functionOf(numbers(), t))
	}
	return out
}

// inner are types that stand in others.
func inner() []api.Type { return []api.Type{of(api.Null), numbers(), texts(), anything()} }

// many are few, and types with more in them.
func many() []api.Type {
	out := few()
	for _, t := range inner() {
		for _, u := range inner() {
			out = append(out, contextOf("a b", t, u), contextOf("b a", t, u), functionOf(t, u, numbers()), listOf(functionOf(t, u)))
		}
		out = append(out, listOf(listOf(t)), listOf(rangeOf(t)), rangeOf(listOf(t)), listOf(contextOf("a", t)), contextOf("a", listOf(t)), contextOf("a", contextOf("a", t)), contextOf("a c", t, contextOf("")))
	}
	return append(out, listOf(contextOf("")), functionOf(contextOf(""), numbers()), contextOf("a", contextOf("")), contextOf("a b c", numbers(), texts(), of(api.Boolean)))
}

// someType is any type, so deep at most.
func someType(r *rand.Rand, deep int) api.Type {
	if deep == 0 || r.Intn(3) == 0 {
		return of(pick(r, simpleKinds()))
	}
	switch r.Intn(6) {
	case 0:
		return listOf(someType(r, deep-1))
	case 1:
		return rangeOf(someType(r, deep-1))
	case 2, 3:
		out := contextOf("")
		for _, name := range someNames(r) {
			out.Names, out.Items = append(out.Names, name), append(out.Items, someType(r, deep-1))
		}
		return out
	}
	out := functionOf()
	for range 1 + r.Intn(3) {
		out.Items = append(out.Items, someType(r, deep-1))
	}
	return out
}

// names are some of all kinds, the empty one too.
func names() []string {
	return []string{"a", "b", "c", "order date", "", "a\"\\\n", "\u00e9"}
}

// someNames are a few names, none twice.
func someNames(r *rand.Rand) []string {
	var out []string
	for _, i := range r.Perm(len(names()))[:r.Intn(4)] {
		out = append(out, names()[i])
	}
	return out
}

// near is a type like another one, with a few of its parts another way: so that what is of the one is often of the other, and often not by one part alone.
func near(r *rand.Rand, t api.Type) api.Type {
	switch r.Intn(20) {
	case 0, 1:
		return anything()
	case 2:
		return someType(r, 2)
	}
	out := api.Type{Kind: t.Kind}
	order := r.Perm(len(t.Items))
	if t.Kind != api.Context {
		slices.Sort(order)
	}
	for _, i := range order {
		if t.Kind == api.Context {
			if r.Intn(6) == 0 {
				continue
			}
			out.Names = append(out.Names, t.Names[i])
		}
		out.Items = append(out.Items, near(r, t.Items[i]))
	}
	if t.Kind == api.Context && r.Intn(10) == 0 {
		out.Names, out.Items = append(out.Names, "one more"), append(out.Items, someType(r, 1))
	}
	if t.Kind == api.Function && r.Intn(8) == 0 {
		out.Items = append(out.Items, someType(r, 1))
	}
	return out
}

// anyShape is whatever a Type may be filled with, a type or not, so deep at most.
func anyShape(r *rand.Rand, deep int) api.Type {
	out := api.Type{Kind: api.Kind(r.Intn(17) - 1)}
	if r.Intn(20) == 0 {
		out.Kind = pick(r, noKinds())
	}
	if deep == 0 {
		return out
	}
	for range pick(r, []int{0, 0, 1, 1, 1, 2, 3}) {
		out.Items = append(out.Items, anyShape(r, deep-1))
	}
	n := 0
	if out.Kind == api.Context || r.Intn(8) == 0 {
		n = max(0, len(out.Items)+pick(r, []int{-1, 0, 0, 0, 0, 1}))
	}
	for range n {
		out.Names = append(out.Names, pick(r, names()))
	}
	return out
}

// things are values of each kind, alone and in others.
func things() []thing {
	out := append(leaves(), function(0), function(1), function(2), context(""), list())
	for _, x := range []thing{null(), number(1), text("a"), list(), list(number(1)), context("a", number(1)), function(1)} {
		out = append(out, list(x), context("a", x), context("b", x), list(x, number(2)), list(null(), x), list(list(x)), context("a b", number(1), x), context("b a", x, text("a")), context("a", list(x)), context("a", context("a", x)), list(context("a", x)))
	}
	for _, brackets := range []string{"[]", "()"} {
		out = append(out, span(number(1), number(2), brackets), span(number(2), null(), brackets), span(null(), text("a"), brackets), span(null(), null(), brackets), list(span(number(1), null(), brackets)))
	}
	return append(out, list(number(1), text("a")), list(number(1), null()), context("a b c", number(1), text("a"), boolean(true)))
}

// someThing is anything that may be a value, so deep at most.
func someThing(r *rand.Rand, deep int) thing {
	if deep == 0 || r.Intn(3) == 0 {
		return pick(r, append(leaves()[:6:6], number(2), text("a"), function(r.Intn(3)), list(), context("")))
	}
	switch r.Intn(6) {
	case 0:
		return someSpan(r)
	case 1:
		return pick(r, leaves())
	case 2, 3:
		return someList(r, deep)
	}
	x := context("")
	for _, name := range someNames(r) {
		x.names, x.items = append(x.names, name), append(x.items, someThing(r, deep-1))
	}
	return x
}

// someList is one of things most of which are alike.
func someList(r *rand.Rand, deep int) thing {
	x := list()
	first := someThing(r, deep-1)
	for range r.Intn(4) {
		x.items = append(x.items, alike(r, first))
	}
	return x
}

// alike is a thing of about the same type as another one.
func alike(r *rand.Rand, x thing) thing {
	switch r.Intn(12) {
	case 0:
		return null()
	case 1:
		return someThing(r, 1)
	}
	y := x
	y.names, y.items = nil, nil
	order := r.Perm(len(x.items))
	if x.kind != api.Context {
		slices.Sort(order)
	}
	for _, i := range order {
		switch {
		case x.kind == api.Context && r.Intn(6) == 0:
			continue
		case x.kind == api.Context:
			y.names = append(y.names, x.names[i])
		case x.kind == api.Range:
			y.items = append(y.items, pick(r, []thing{x.items[i], null()}))
			continue
		}
		y.items = append(y.items, alike(r, x.items[i]))
	}
	return y
}

func someSpan(r *rand.Rand) thing {
	ends := pick(r, [][]thing{{number(1), number(5)}, {text("a"), text("b")}, {date(1, 1, 1), date(2024, 1, 1)}, {days(1), days(2)}})
	for i := range ends {
		if r.Intn(3) == 0 {
			ends[i] = null()
		}
	}
	return span(ends[0], ends[1], pick(r, []string{"[]", "[)", "(]", "()"}))
}

func pick[T any](r *rand.Rand, all []T) T { return all[r.Intn(len(all))] }

// checkIs holds what Is answers, and that a type stays as it is.
func checkIs(t *testing.T, x thing, of api.Type, want bool) {
	t.Helper()
	checkIsOf(t, x, x.made(), of, want)
}

func checkIsOf(t *testing.T, x thing, v value.Value, of api.Type, want bool) {
	t.Helper()
	before := clone(of)
	if got := member.Is(v, of); got != want {
		t.Errorf("Is(%s, %s) = %v", picture(x), show(of), got)
	}
	if !same(of, before) {
		t.Errorf("%s has become %s", show(before), show(of))
	}
}

func checkInstance(t *testing.T, x thing, of api.Type, want bool) {
	t.Helper()
	if got := member.Instance(x.made(), of); got != want {
		t.Errorf("Instance(%s, %s) = %v", picture(x), show(of), got)
	}
}

func checkOf(t *testing.T, x thing, want api.Type) {
	t.Helper()
	if got := member.Of(x.made()); !same(got, want) {
		t.Errorf("Of(%s) = %s, not %s", picture(x), show(got), show(want))
	}
}
