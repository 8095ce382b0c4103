package value

import (
	"slices"
	"unicode/utf8"

	"casuist/api"
)

// list is what a list has.
type list []Value

// entries is what a context has: its names, what each stands for, and the place at which each stands.
type entries struct {
	names []string
	items []Value
	at    map[string]int
}

// bounds is what a range has: its ends, and whether each belongs to it.
type bounds struct {
	ends [2]Value
	in   [2]bool
}

// function is what a function is to whoever made it, and how many it takes.
type function struct {
	code  any
	takes int
}

// hasCode tells whether there is a function in one of some values.
func hasCode(vs []Value) bool {
	return slices.ContainsFunc(vs, func(v Value) bool { return v.code })
}

// List is a list of some.
func List(vs ...Value) Value {
	return Value{kind: api.List, in: list(slices.Clone(vs)), code: hasCode(vs)}
}

// Context is one of some names; null, if one stands twice or is not UTF-8, or there are not as many.
func Context(names []string, items []Value) Value {
	if len(names) != len(items) {
		return Value{}
	}
	at, ok := places(names)
	if !ok {
		return Value{}
	}
	c := entries{names: slices.Clone(names), items: slices.Clone(items), at: at}
	return Value{kind: api.Context, in: c, code: hasCode(items)}
}

// places is at which place each name stands; false, if one stands twice or is not UTF-8.
func places(names []string) (map[string]int, bool) {
	at := make(map[string]int, len(names))
	for i, name := range names {
		if _, twice := at[name]; twice || !utf8.ValidString(name) {
			return nil, false
		}
		at[name] = i
	}
	return at, true
}

// Ordered tells whether a kind's values have an order.
func Ordered(k api.Kind) bool {
	switch k {
	case api.Number, api.String, api.Date, api.Time, api.DateTime, api.Days, api.Months:
		return true
	}
	return false
}

// Range is one from an end to another one, each of which belongs to it or not; null, if they are not of one kind that has an order. An end that is null is open: it does not belong to it.
func Range(lo, hi Value, in [2]bool) Value {
	unlike := !lo.Null() && !hi.Null() && lo.Kind() != hi.Kind()
	in = [2]bool{in[0] && !lo.Null(), in[1] && !hi.Null()}
	return made(api.Range, bounds{[2]Value{lo, hi}, in}, mayEnd(lo) && mayEnd(hi) && !unlike)
}

// mayEnd tells whether a range can end with a value.
func mayEnd(v Value) bool { return v.Null() || Ordered(v.Kind()) }

// Func is a function that takes so many, and whatever it is to whoever made it.
func Func(code any, takes int) Value {
	return Value{kind: api.Function, in: function{code, takes}, code: true}
}

func (v Value) AsList() ([]Value, bool) {
	l, ok := as[list](v)
	return slices.Clone(l), ok
}

// AsContext is a context's names and what they stand for.
func (v Value) AsContext() ([]string, []Value, bool) {
	c, ok := as[entries](v)
	return slices.Clone(c.names), slices.Clone(c.items), ok
}

// Entry is what a context has by a name.
func (v Value) Entry(name string) (Value, bool) {
	c, _ := as[entries](v)
	i, ok := c.at[name]
	if !ok {
		return Value{}, false
	}
	return c.items[i], true
}

// AsRange is a range's ends, and whether each belongs to it.
func (v Value) AsRange() ([2]Value, [2]bool, bool) {
	r, ok := as[bounds](v)
	return r.ends, r.in, ok
}

// AsFunc is what a function is to whoever made it, and how many it takes.
func (v Value) AsFunc() (any, int, bool) {
	f, ok := as[function](v)
	return f.code, f.takes, ok
}
