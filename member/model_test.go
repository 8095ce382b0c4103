package member_test

import (
	"fmt"
	"math"
	"slices"
	"strings"
	"testing"

	"casuist/api"
	"casuist/civil"
	"casuist/clock"
	"casuist/dec"
	"casuist/moment"
	"casuist/value"
	"casuist/wide"
)

// What the chapter's words say, done plainly, for the tests to hold the package against.

const deepest = 1 << 16 // how many parts stand in one another at most

func TestLimits(t *testing.T) {
	order := append(simpleKinds()[:9:9], api.List, api.Context, api.Range, api.Function, api.Any)
	for i, k := range order {
		if k != api.Kind(i+1) {
			t.Error("the tests of this package are written for other kinds")
		}
	}
}

// simpleKinds are those with nothing in them, Any last.
func simpleKinds() []api.Kind {
	return []api.Kind{api.Null, api.Boolean, api.Number, api.String, api.Date, api.Time, api.DateTime, api.Days, api.Months, api.Any}
}

// noKinds are kinds that there are not.
func noKinds() []api.Kind {
	return []api.Kind{0, 15, 16, -1, -2, 255, 256, 257, 1<<32 + 1, 1<<32 + 14, 1 << 62, math.MaxInt, math.MinInt}
}

// thing is the tests' own picture of a value.
type thing struct {
	kind  api.Kind
	leaf  value.Value // of a kind with nothing in it
	takes int         // of a function
	names []string
	items []thing
	in    [2]bool
}

func null() thing { return thing{kind: api.Null} }

func leaf(k api.Kind, v value.Value) thing {
	if v.Kind() != k || v.Null() {
		panic(fmt.Sprint("no value of the kind ", k))
	}
	return thing{kind: k, leaf: v}
}

func boolean(b bool) thing { return leaf(api.Boolean, value.Bool(b)) }

func number(n int) thing { return leaf(api.Number, value.Int(n)) }

func text(s string) thing { return leaf(api.String, value.Text(s)) }

func days(n int) thing { return leaf(api.Days, value.Days(n)) }

func months(n int) thing { return leaf(api.Months, value.Months(n)) }

func date(y, m, d int) thing {
	return leaf(api.Date, value.Date(civil.Date{Year: y, Month: m, Day: d}))
}

func list(items ...thing) thing { return thing{kind: api.List, items: items} }

// context is one of names, with a blank between each, and of what stands by each.
func context(names string, items ...thing) thing {
	return thing{kind: api.Context, names: strings.Fields(names), items: items}
}

// span is a range as it is written: "[]" where both ends belong to it, "()" where neither does.
func span(lo, hi thing, brackets string) thing {
	in := [2]bool{brackets[0] == '[', brackets[1] == ']'}
	return thing{kind: api.Range, items: []thing{lo, hi}, in: in}
}

func function(takes int) thing { return thing{kind: api.Function, takes: takes} }

// leaves are, of each kind that has nothing in it, two values.
func leaves() []thing {
	at := clock.Time{Sec: 36000, Zoned: true, Offset: 3600}
	half := dec.Dec{Coef: wide.Of(150), Exp: -2}
	return []thing{
		null(), null(),
		boolean(false), boolean(true),
		number(0), leaf(api.Number, value.Num(half)),
		text(""), text("number"),
		date(2024, 2, 29), date(-44, 3, 15),
		leaf(api.Time, value.Time(clock.Time{})), leaf(api.Time, value.Time(at)),
		leaf(api.DateTime, value.Moment(moment.Moment{Date: civil.Date{Year: 1970, Month: 1, Day: 1}})), leaf(api.DateTime, value.Moment(moment.Moment{Date: civil.Date{Year: 2024, Month: 1, Day: 31}, Time: at})),
		days(0), days(-1 << 53),
		months(0), months(1 << 53),
	}
}

// made is the value of it; the test's own fault, if there is none.
func (x thing) made() value.Value {
	v := x.make()
	if v.Kind() != x.kind {
		panic(fmt.Sprintf("no value of %v", x))
	}
	return v
}

func (x thing) make() value.Value {
	switch x.kind {
	case api.List:
		return value.List(madeAll(x.items)...)
	case api.Context:
		return value.Context(x.names, madeAll(x.items))
	case api.Range:
		return value.Range(x.items[0].made(), x.items[1].made(), x.in)
	case api.Function:
		return value.Func("code", x.takes)
	}
	return x.leaf
}

func madeAll(xs []thing) []value.Value {
	var out []value.Value
	for _, x := range xs {
		out = append(out, x.made())
	}
	return out
}

// nest is something so many deep in others, made by around from the inside out.
func nest[T any](deep int, x T, around func(T) T) T {
	for range deep {
		x = around(x)
	}
	return x
}

// isModel is P14.1's Is, by the words.
func isModel(x thing, t api.Type) bool {
	if x.kind == api.Null || t.Kind == api.Any {
		return true
	}
	if x.kind != t.Kind {
		return false
	}
	switch x.kind {
	case api.List, api.Range:
		for _, item := range x.items {
			if !isModel(item, t.Items[0]) {
				return false
			}
		}
	case api.Context:
		for i, name := range t.Names {
			k := slices.Index(x.names, name)
			if k < 0 || !isModel(x.items[k], t.Items[i]) {
				return false
			}
		}
	case api.Function:
		takes := t.Items[:len(t.Items)-1]
		return x.takes == len(takes)
	}
	return true
}

// instanceModel is P14.2's Instance, by the words.
func instanceModel(x thing, t api.Type) bool {
	if x.kind == api.Null {
		return t.Kind == api.Null
	}
	return isModel(x, t) && t.Kind != api.Null
}

// ofModel is P14.2's Of, by the words.
func ofModel(x thing) api.Type {
	out := api.Type{Kind: x.kind}
	switch x.kind {
	case api.List, api.Range:
		all := of(api.Null)
		for _, item := range x.items {
			all = joinModel(all, ofModel(item))
		}
		out.Items = []api.Type{all}
	case api.Context:
		for i, name := range x.names {
			out.Names = append(out.Names, name)
			out.Items = append(out.Items, ofModel(x.items[i]))
		}
	case api.Function:
		for range x.takes + 1 {
			out.Items = append(out.Items, of(api.Any))
		}
	}
	return out
}

// conformsModel and joinModel are those of P13.3 and P13.4.
func conformsModel(a, b api.Type) bool {
	if a.Kind == api.Null || b.Kind == api.Any {
		return true
	}
	if a.Kind != b.Kind {
		return false
	}
	switch a.Kind {
	case api.List, api.Range:
		return conformsModel(a.Items[0], b.Items[0])
	case api.Context:
		for i, name := range b.Names {
			k := slices.Index(a.Names, name)
			if k < 0 || !conformsModel(a.Items[k], b.Items[i]) {
				return false
			}
		}
	case api.Function:
		last := len(a.Items) - 1
		if len(b.Items)-1 != last {
			return false
		}
		for i := range last {
			if !conformsModel(b.Items[i], a.Items[i]) {
				return false
			}
		}
		return conformsModel(a.Items[last], b.Items[last])
	}
	return true
}

func joinModel(a, b api.Type) api.Type {
	if conformsModel(a, b) {
		return clone(b)
	}
	if conformsModel(b, a) {
		return clone(a)
	}
	out := api.Type{Kind: api.Any}
	if a.Kind != b.Kind {
		return out
	}
	switch a.Kind {
	case api.List, api.Range:
		return api.Type{Kind: a.Kind, Items: []api.Type{joinModel(a.Items[0], b.Items[0])}}
	case api.Context:
		out.Kind = api.Context
		for i, name := range a.Names {
			if k := slices.Index(b.Names, name); k >= 0 {
				out.Names = append(out.Names, name)
				out.Items = append(out.Items, joinModel(a.Items[i], b.Items[k]))
			}
		}
	}
	return out
}
