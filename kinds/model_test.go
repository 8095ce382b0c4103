package kinds_test

import (
	"fmt"
	"math"
	"math/rand"
	"slices"
	"strconv"
	"strings"
	"testing"

	"casuist/api"
)

// What the chapter's words say, done plainly, for the tests to hold the package against.

const deepest = 1 << 16 // how many parts stand in one another at most

func TestLimits(t *testing.T) {
	order := []api.Kind{api.Null, api.Boolean, api.Number, api.String, api.Date, api.Time, api.DateTime, api.Days, api.Months, api.List, api.Context, api.Range, api.Function, api.Any}
	for i, k := range order {
		if k != api.Kind(i+1) {
			t.Error("the tests of this package are written for other kinds")
		}
	}
}

// words are the kinds that are Simple, with their names.
func words() map[api.Kind]string {
	return map[api.Kind]string{
		api.Null: "Null", api.Boolean: "boolean", api.Number: "number", api.String: "string", api.Date: "date", api.Time: "time", api.DateTime: "date and time",
		api.Days: "days and time duration", api.Months: "years and months duration", api.Any: "Any",
	}
}

func simpleKinds() []api.Kind {
	return []api.Kind{api.Null, api.Boolean, api.Number, api.String, api.Date, api.Time, api.DateTime, api.Days, api.Months, api.Any}
}

// noKinds are kinds that there are not.
func noKinds() []api.Kind {
	return []api.Kind{0, 15, 16, -1, -2, 255, 256, 257, 1<<32 + 1, 1<<32 + 14, 1 << 62, math.MaxInt, math.MinInt}
}

func of(k api.Kind) api.Type { return api.Type{Kind: k} }

func null() api.Type { return of(api.Null) }

func anything() api.Type { return of(api.Any) }

func number() api.Type { return of(api.Number) }

func text() api.Type { return of(api.String) }

func boolean() api.Type { return of(api.Boolean) }

func list(t api.Type) api.Type { return api.Type{Kind: api.List, Items: []api.Type{t}} }

func span(t api.Type) api.Type { return api.Type{Kind: api.Range, Items: []api.Type{t}} }

// context is one of names, with a blank between each, and of what stands by each.
func context(names string, items ...api.Type) api.Type {
	return api.Type{Kind: api.Context, Names: strings.Fields(names), Items: items}
}

// function is one that gives the last one, and takes the others.
func function(parts ...api.Type) api.Type { return api.Type{Kind: api.Function, Items: parts} }

// same tells whether two types are the very same, part by part; a list without things is nil or empty.
func same(a, b api.Type) bool {
	return a.Kind == b.Kind && slices.Equal(a.Names, b.Names) && slices.EqualFunc(a.Items, b.Items, same)
}

// show is a type for a complaint, or the beginning of it.
func show(t api.Type) string {
	var out strings.Builder
	showIn(&out, t)
	s := out.String()
	return s[:min(len(s), 300)]
}

func showIn(out *strings.Builder, t api.Type) {
	if out.Len() > 300 {
		return
	}
	out.WriteString(strconv.Itoa(int(t.Kind)))
	if len(t.Names) > 0 {
		out.WriteString(fmt.Sprintf("%q", t.Names[:min(len(t.Names), 20)]))
	}
	for i, item := range t.Items {
		out.WriteString(map[bool]string{true: "{", false: " "}[i == 0])
		showIn(out, item)
	}
	if len(t.Items) > 0 {
		out.WriteString("}")
	}
}

// clone is a type in memory of its own.
func clone(t api.Type) api.Type {
	out := api.Type{Kind: t.Kind, Names: append([]string(nil), t.Names...)}
	for _, item := range t.Items {
		out.Items = append(out.Items, clone(item))
	}
	return out
}

// spoil makes everything that a type is made of something else, in its own memory, and behind it as far as its memory goes.
func spoil(t api.Type) {
	for i := range t.Items {
		spoil(t.Items[i])
		t.Items[i] = api.Type{Kind: 99}
	}
	for i := range t.Names {
		t.Names[i] = "spoilt"
	}
	items, names := t.Items[:cap(t.Items)], t.Names[:cap(t.Names)]
	for i := len(t.Items); i < len(items); i++ {
		items[i] = api.Type{Kind: 99}
	}
	for i := len(t.Names); i < len(names); i++ {
		names[i] = "spoilt"
	}
}

// roomy is a type each of whose lists has room behind it, in which something stands that is not its own.
func roomy(t api.Type) api.Type {
	out := api.Type{Kind: t.Kind}
	if len(t.Items) > 0 {
		out.Items = make([]api.Type, 0, len(t.Items)+2)
	}
	for _, item := range t.Items {
		out.Items = append(out.Items, roomy(item))
	}
	if len(t.Names) > 0 {
		out.Names = append(make([]string, 0, len(t.Names)+2), t.Names...)
	}
	return out
}

// room is what stands behind a type's lists, in all that it is made of.
func room(t api.Type) []string {
	var out []string
	for _, x := range t.Items[len(t.Items):cap(t.Items)] {
		out = append(out, strconv.Itoa(int(x.Kind)))
	}
	out = append(out, t.Names[len(t.Names):cap(t.Names)]...)
	for _, item := range t.Items {
		out = append(out, room(item)...)
	}
	return out
}

// nest is a type so many deep in others, made by around from the inside out.
func nest(deep int, t api.Type, around func(api.Type) api.Type) api.Type {
	for range deep {
		t = around(t)
	}
	return t
}

// arounds are the ways in which a type stands alone in another one, each with its text ahead of the type's and behind it.
func arounds() map[[2]string]func(api.Type) api.Type {
	return map[[2]string]func(api.Type) api.Type{
		{"list<", ">"}:                 list,
		{"range<", ">"}:                span,
		{`context<"a": `, ">"}:         func(t api.Type) api.Type { return context("a", t) },
		{"function<> -> ", ""}:         func(t api.Type) api.Type { return function(t) },
		{"function<", "> -> number"}:   func(t api.Type) api.Type { return function(t, number()) },
		{"function<number> -> ", ""}:   func(t api.Type) api.Type { return function(number(), t) },
		{"function<Any, ", "> -> Any"}: func(t api.Type) api.Type { return function(anything(), t, anything()) },
	}
}

func mayModel(t api.Type) bool {
	ok := false
	switch t.Kind {
	case api.List, api.Range:
		ok = len(t.Items) == 1 && len(t.Names) == 0
	case api.Context:
		ok = len(t.Items) == len(t.Names)
		for i, name := range t.Names {
			ok = ok && !slices.Contains(t.Names[:i], name)
		}
	case api.Function:
		ok = len(t.Items) >= 1 && len(t.Names) == 0
	default:
		ok = slices.Contains(simpleKinds(), t.Kind) && len(t.Items) == 0 && len(t.Names) == 0
	}
	for _, item := range t.Items {
		ok = ok && mayModel(item)
	}
	return ok
}

func quoteModel(s string) string {
	out := ""
	for _, r := range []rune(s) {
		switch r {
		case '\n':
			out += "\\n"
		case '\r':
			out += "\\r"
		case '\t':
			out += "\\t"
		case '"':
			out += "\\\""
		case '\\':
			out += "\\\\"
		default:
			out += string(r)
		}
	}
	return "\"" + out + "\""
}

func textModel(t api.Type) string {
	var parts []string
	for i, item := range t.Items {
		s := textModel(item)
		if t.Kind == api.Context {
			s = quoteModel(t.Names[i]) + ": " + s
		}
		parts = append(parts, s)
	}
	switch t.Kind {
	case api.List:
		return "list<" + parts[0] + ">"
	case api.Range:
		return "range<" + parts[0] + ">"
	case api.Context:
		return "context<" + strings.Join(parts, ", ") + ">"
	case api.Function:
		last := len(parts) - 1
		return "function<" + strings.Join(parts[:last], ", ") + "> -> " + parts[last]
	}
	return words()[t.Kind]
}

func conformsModel(a, b api.Type) bool {
	if a.Kind == api.Null || b.Kind == api.Any {
		return true
	}
	if a.Kind != b.Kind {
		return false
	}
	switch a.Kind {
	case api.List, api.Range:
		return conformsModel(a.Items[0], b.Items[0])
	case api.Context:
		for i, name := range b.Names {
			k := slices.Index(a.Names, name)
			if k < 0 || !conformsModel(a.Items[k], b.Items[i]) {
				return false
			}
		}
		return true
	case api.Function:
		if len(a.Items) != len(b.Items) {
			return false
		}
		last := len(a.Items) - 1
		for i := range last {
			if !conformsModel(b.Items[i], a.Items[i]) {
				return false
			}
		}
		return conformsModel(a.Items[last], b.Items[last])
	}
	return true
}

func joinModel(a, b api.Type) api.Type {
	if conformsModel(a, b) {
		return clone(b)
	}
	if conformsModel(b, a) {
		return clone(a)
	}
	out := api.Type{Kind: api.Any}
	if a.Kind != b.Kind {
		return out
	}
	switch a.Kind {
	case api.List, api.Range:
		return api.Type{Kind: a.Kind, Items: []api.Type{joinModel(a.Items[0], b.Items[0])}}
	case api.Context:
		out.Kind = api.Context
		for i, name := range a.Names {
			if k := slices.Index(b.Names, name); k >= 0 {
				out.Names = append(out.Names, name)
				out.Items = append(out.Items, joinModel(a.Items[i], b.Items[k]))
			}
		}
	}
	return out
}

func meetsModel(a, b api.Type) bool {
	loose := []api.Kind{api.Any, api.Null}
	return a.Kind == b.Kind || slices.Contains(loose, a.Kind) || slices.Contains(loose, b.Kind)
}

// few are types of each kind, with at most one other one in each.
func few() []api.Type {
	var out []api.Type
	for _, k := range simpleKinds() {
		out = append(out, of(k))
	}
	out = append(out, context(""))
	for _, t := range inner() {
		out = append(out, list(t), span(t), context("a", t), context("b", t), function(t), function(t, number()), function(number(), t))
	}
	return out
}

// inner are types that stand in others.
func inner() []api.Type { return []api.Type{null(), number(), text(), anything()} }

// many are few, and types with more in them.
func many() []api.Type {
	out := few()
	for _, t := range inner() {
		for _, u := range inner() {
			out = append(out, context("a b", t, u), context("b a", t, u), function(t, u), function(t, u, number()), list(function(t, u)), function(function(t, u), anything()))
		}
		out = append(out, list(list(t)), list(span(t)), span(list(t)), list(context("a", t)), context("a", list(t)), context("a", context("a", t)), context("a c", t, context("")), function(list(t), number()), function(context("a", t), context("a", t)))
	}
	return append(out, list(context("")), function(context(""), number()), context("a", context("")), context("a b c", number(), text(), boolean()), context("c b a", boolean(), text(), number()))
}

// someType is any type, so deep at most.
func someType(r *rand.Rand, deep int) api.Type {
	if deep == 0 || r.Intn(3) == 0 {
		return of(pick(r, simpleKinds()))
	}
	switch r.Intn(6) {
	case 0:
		return list(someType(r, deep-1))
	case 1:
		return span(someType(r, deep-1))
	case 2, 3:
		return someContext(r, deep)
	}
	out := api.Type{Kind: api.Function}
	for range 1 + r.Intn(3) {
		out.Items = append(out.Items, someType(r, deep-1))
	}
	return out
}

func someContext(r *rand.Rand, deep int) api.Type {
	out := api.Type{Kind: api.Context}
	for _, i := range r.Perm(len(someNames()))[:r.Intn(4)] {
		out.Names = append(out.Names, someNames()[i])
		out.Items = append(out.Items, someType(r, deep-1))
	}
	return out
}

func someNames() []string { return []string{"a", "b", "c", "order date", "", "a\"\\\n", "\u00e9"} }

// near is a type like another one, with a few of its parts another way: so that two of them conform often, and often fail by one part alone.
func near(r *rand.Rand, t api.Type) api.Type {
	switch r.Intn(16) {
	case 0:
		return null()
	case 1:
		return anything()
	case 2:
		return someType(r, 2)
	}
	out := api.Type{Kind: t.Kind}
	order := r.Perm(len(t.Items))
	if t.Kind != api.Context {
		slices.Sort(order)
	}
	for _, i := range order {
		if t.Kind == api.Context {
			if r.Intn(10) == 0 {
				continue
			}
			out.Names = append(out.Names, t.Names[i])
		}
		out.Items = append(out.Items, near(r, t.Items[i]))
	}
	if t.Kind == api.Context && r.Intn(10) == 0 {
		out.Names, out.Items = append(out.Names, "one more"), append(out.Items, someType(r, 1))
	}
	if t.Kind == api.Function && r.Intn(20) == 0 {
		out.Items = append(out.Items, someType(r, 1))
	}
	return out
}

// anyShape is whatever a Type may be filled with, a type or not, so deep at most.
func anyShape(r *rand.Rand, deep int) api.Type {
	out := api.Type{Kind: api.Kind(r.Intn(17) - 1)}
	if r.Intn(20) == 0 {
		out.Kind = pick(r, noKinds())
	}
	if deep == 0 {
		return out
	}
	for range pick(r, []int{0, 0, 1, 1, 1, 2, 3}) {
		out.Items = append(out.Items, anyShape(r, deep-1))
	}
	n := 0
	if out.Kind == api.Context || r.Intn(8) == 0 {
		n = max(0, len(out.Items)+pick(r, []int{-1, 0, 0, 0, 0, 1}))
	}
	for range n {
		out.Names = append(out.Names, pick(r, someNames()))
	}
	return out
}

func pick[T any](r *rand.Rand, all []T) T { return all[r.Intn(len(all))] }
