package equal

import (
	"casuist/api"
	"casuist/value"
)

// Same tells whether both are the same.
func Same(a, b value.Value) api.Truth {
	switch {
	case a.Null() || b.Null():
		return Of(a.Null() && b.Null())
	case a.Kind() != b.Kind():
		return api.Unknown
	}
	switch a.Kind() {
	case api.Boolean:
		return Of(Truth(a) == Truth(b))
	case api.List:
		return sameLists(a, b)
	case api.Context:
		return sameContexts(a, b)
	case api.Range:
		return sameRanges(a, b)
	}
	// Functions have no order either: Cmp is false of them.
	c, ok := Cmp(a, b)
	return known(c == 0, ok)
}

func sameLists(a, b value.Value) api.Truth {
	xs, _ := a.AsList()
	ys, _ := b.AsList()
	if len(xs) != len(ys) {
		return api.No
	}
	return sameAll(xs, ys)
}

// sameAll is And of Same of as many values each, one by one.
func sameAll(xs, ys []value.Value) api.Truth {
	all := api.Yes
	for i, x := range xs {
		all = And(all, Same(x, ys[i]))
		if all == api.No {
			// What comes behind changes nothing.
			break
		}
	}
	return all
}

func sameContexts(a, b value.Value) api.Truth {
	names, xs, _ := a.AsContext()
	others, _, _ := b.AsContext()
	if len(names) != len(others) {
		return api.No
	}
	// No name stands twice in a context: of as many names b has none beside these, if it has these.
	ys := make([]value.Value, len(names))
	for i, name := range names {
		y, ok := b.Entry(name)
		if !ok {
			return api.No
		}
		ys[i] = y
	}
	return sameAll(xs, ys)
}

func sameRanges(a, b value.Value) api.Truth {
	xs, inA, _ := a.AsRange()
	ys, inB, _ := b.AsRange()
	return And(Of(inA == inB), sameAll(xs[:], ys[:]))
}

// Among tells whether a value is the same as one of some.
func Among(v value.Value, vs []value.Value) api.Truth {
	one := api.No
	for _, other := range vs {
		one = Or(one, Same(v, other))
		if one == api.Yes {
			// What comes behind changes nothing.
			break
		}
	}
	return one
}
