package member

import (
	"casuist/api"
	"casuist/value"
)

// shape is a value's type while it is found. It stands in for an api.Type for two reasons: of a function it tells only how many it takes, as all else in its type is Any; and it is joined as it is, where kinds' calls would copy, at each depth, all that is below.
type shape struct {
	kind  api.Kind
	takes int
	names []string
	items []shape
}

// most is for how many types there is room in an answer: a type is of 56 bytes, and beyond 2^31 - 1 of them the document promises nothing.
const most = (1<<31 - 1) / 56

// shapeOf is the shape of a value.
func shapeOf(v value.Value) shape {
	s := shape{kind: v.Kind()}
	switch s.kind {
	case api.List:
		items, _ := v.AsList()
		s.items = []shape{all(items)}
	case api.Range:
		ends, _, _ := v.AsRange()
		s.items = []shape{all(ends[:])}
	case api.Context:
		names, items, _ := v.AsContext()
		s.names, s.items = names, shapes(items)
	case api.Function:
		_, takes, _ := v.AsFunc()
		return functionShape(takes)
	}
	return s
}

func shapes(vs []value.Value) []shape {
	out := make([]shape, len(vs))
	for i, v := range vs {
		out[i] = shapeOf(v)
	}
	return out
}

// functionShape is that of a function that takes so many; Any's, of which each value is, if it takes fewer than none, which no type tells.
func functionShape(takes int) shape {
	if takes < 0 {
		return shape{kind: api.Any}
	}
	return shape{kind: api.Function, takes: takes}
}

// all is what the shapes of some values are joined to, in turn; Null's of none.
func all(vs []value.Value) shape {
	out := shape{kind: api.Null}
	for _, v := range vs {
		out = hold(out, shapeOf(v)).join
	}
	return out
}

// verdict is what two shapes are to one another: whether the first one conforms to the second one (there), the second one to the first (back), and what both are joined to.
type verdict struct {
	there, back bool
	join        shape
}

// judge is the verdict of two shapes; otherwise is what they are joined to, if neither conforms to the other one.
func judge(a, b shape, there, back bool, otherwise shape) verdict {
	join := otherwise
	switch {
	case there:
		join = b
	case back:
		join = a
	}
	return verdict{there, back, join}
}

// hold holds two shapes against one another, as kinds' Conforms and Join do two types.
func hold(a, b shape) verdict {
	if a.kind != b.kind {
		return judge(a, b, goes(a.kind, b.kind), goes(b.kind, a.kind), shape{kind: api.Any})
	}
	switch a.kind {
	case api.List, api.Range:
		in := hold(a.items[0], b.items[0])
		return verdict{in.there, in.back, shape{kind: a.kind, items: []shape{in.join}}}
	case api.Context:
		return holdContexts(a, b)
	case api.Function:
		alike := a.takes == b.takes
		return judge(a, b, alike, alike, shape{kind: api.Any})
	}
	return verdict{there: true, back: true, join: b}
}

// goes tells whether all that is of one kind is of another one.
func goes(from, to api.Kind) bool { return from == api.Null || to == api.Any }

func holdContexts(a, b shape) verdict {
	at := places(b.names)
	both := shape{kind: api.Context}
	there, back := true, true
	for i, name := range a.names {
		k, ok := at[name]
		if !ok {
			back = false
			continue
		}
		one := hold(a.items[i], b.items[k])
		there, back = there && one.there, back && one.back
		both.names, both.items = append(both.names, name), append(both.items, one.join)
	}
	// No name stands twice in a context: b has one that a has not, if it has more than both have.
	there = there && len(b.names) == len(both.names)
	return judge(a, b, there, back, both)
}

// places is at which place each name stands.
func places(names []string) map[string]int {
	at := make(map[string]int, len(names))
	for i, name := range names {
		at[name] = i
	}
	return at
}

// left is how much room the functions in a shape leave of so much; below 0, if they need more. A few words of a value may tell of functions that take more than any memory holds: all are counted ahead of telling one.
func left(s shape, room int) int {
	if s.kind == api.Function {
		return room - s.takes - 1
	}
	for _, item := range s.items {
		// Two functions may take more than an int holds.
		if room < 0 {
			break
		}
		room = left(item, room)
	}
	return room
}

// told is a shape as a type.
func told(s shape) api.Type {
	if s.kind == api.Function {
		return functionType(s.takes)
	}
	t := api.Type{Kind: s.kind, Names: s.names}
	for _, item := range s.items {
		t.Items = append(t.Items, told(item))
	}
	return t
}

// functionType is the type of a function that takes so many, of Any each, and gives Any. Its items are written where they stand, as copies of so many take far longer.
func functionType(takes int) api.Type {
	t := api.Type{Kind: api.Function, Items: make([]api.Type, takes+1)}
	for i := range t.Items {
		t.Items[i].Kind = api.Any
	}
	return t
}
