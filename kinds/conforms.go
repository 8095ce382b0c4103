package kinds

import (
	"casuist/api"
)

// verdict is what two types are to one another: whether the first conforms to the second one (there), the second one to the first (back), and what both are joined to, which may share memory with them. All three are found together, part by part: a Join that asked anew at each depth whether all below conforms would take the square of the depth.
type verdict struct {
	there, back bool
	join        api.Type
}

// judge is the verdict of two types; otherwise is their Join, if neither conforms to the other one.
func judge(a, b api.Type, there, back bool, otherwise api.Type) verdict {
	join := otherwise
	switch {
	case there:
		join = b
	case back:
		join = a
	}
	return verdict{there, back, join}
}

// hold holds two types against one another.
func hold(a, b api.Type) verdict {
	if a.Kind != b.Kind {
		return judge(a, b, goes(a.Kind, b.Kind), goes(b.Kind, a.Kind), Of(api.Any))
	}
	switch a.Kind {
	case api.List, api.Range:
		in := hold(within(a), within(b))
		return judge(a, b, in.there, in.back, around(a.Kind, in.join))
	case api.Context:
		return holdContexts(a, b)
	case api.Function:
		return holdFunctions(a, b)
	}
	return verdict{there: true, back: true, join: b}
}

// goes tells whether all that is of one kind is of another one.
func goes(from, to api.Kind) bool { return from == api.Null || to == api.Any }

func holdContexts(a, b api.Type) verdict {
	names, items := entries(a)
	others, otherItems := entries(b)
	at := places(others)
	both := api.Type{Kind: api.Context}
	there, back := true, true
	for i, name := range names {
		k, ok := at[name]
		if !ok {
			back = false
			continue
		}
		one := hold(items[i], otherItems[k])
		there, back = there && one.there, back && one.back
		both.Names, both.Items = append(both.Names, name), append(both.Items, one.join)
	}
	// No name stands twice in a context: b has one that a has not, if it has more than both have.
	there = there && len(others) == len(both.Names)
	return judge(a, b, there, back, both)
}

func holdFunctions(a, b api.Type) verdict {
	takes, gives := parts(a)
	otherTakes, otherGives := parts(b)
	if len(takes) != len(otherTakes) {
		return judge(a, b, false, false, Of(api.Any))
	}
	one := hold(gives, otherGives)
	there, back := one.there, one.back
	for i, take := range takes {
		// What a function takes goes into it: it conforms the other way round.
		one := hold(take, otherTakes[i])
		there, back = there && one.back, back && one.there
	}
	return judge(a, b, there, back, Of(api.Any))
}

// Conforms tells whether whatever is of type a is of type b.
func Conforms(a, b api.Type) bool { return hold(a, b).there }

// Same tells whether both are the same type: a context's names may stand in any order.
func Same(a, b api.Type) bool {
	v := hold(a, b)
	return v.there && v.back
}

// Join is a type to which both conform: the least one, but that of functions, neither of which conforms to the other, it is Any.
func Join(a, b api.Type) api.Type { return copied(hold(a, b).join) }

// All is the join of some; Null of none.
func All(ts ...api.Type) api.Type {
	all := Of(api.Null)
	for _, t := range ts {
		all = hold(all, t).join
	}
	return copied(all)
}

// Meets tells whether something that is not null may be of both types: whether they are alike in kind, or one is Any.
func Meets(a, b api.Type) bool {
	return a.Kind == b.Kind || loose(a.Kind) || loose(b.Kind)
}

// loose tells whether a kind's type meets each other one.
func loose(k api.Kind) bool { return k == api.Any || k == api.Null }
