package name

import (
	"cmp"
	"slices"
	"sort"
	"strings"

	"casuist/lex"
)

// Scope is names that mean something.
type Scope struct {
	// Each layer has names that no other one has, and twice as many as the next one at least: so one more name does not cost a copy of all of them, and there are few to look into. No layer is changed once it is made, as scopes share them.
	layers []layer
	came   int
}

// layer is names by their bytes' order.
type layer []entry

// entry is a name, and when it came: how many were handed over ahead of it.
type entry struct {
	name string
	came int
}

// Of is a scope of some names; those that are none are left out.
func Of(names ...string) Scope { return Scope{}.With(names...) }

// With is a scope with more names.
func (s Scope) With(names ...string) Scope {
	var more layer
	for i, n := range names {
		if _, ok := Read(n); ok && !s.Has(n) {
			more = append(more, entry{n, s.came + i})
		}
	}
	more = slices.CompactFunc(sorted(more), func(a, b entry) bool { return a.name == b.name })
	return Scope{s.joined(more), s.came + len(names)}
}

// joined is the layers with one more, whose names are not among theirs.
func (s Scope) joined(more layer) []layer {
	at, size := len(s.layers), len(more)
	for at > 0 && len(s.layers[at-1]) < 2*size {
		at--
		size += len(s.layers[at])
	}
	if size == 0 {
		return s.layers
	}
	more = sorted(append(slices.Concat(s.layers[at:]...), more...))
	return slices.Concat(s.layers[:at], []layer{more})
}

// sorted puts names in order, of one that is there twice the one that came first ahead.
func sorted(l layer) layer {
	slices.SortFunc(l, func(a, b entry) int {
		return cmp.Or(strings.Compare(a.name, b.name), a.came-b.came)
	})
	return l
}

// Has tells whether a name is among them.
func (s Scope) Has(name string) bool {
	return slices.ContainsFunc(s.layers, func(l layer) bool { return choice{names: l}.with(name).made() })
}

// Names are its names, in the order in which they came.
func (s Scope) Names() []string {
	all := slices.Concat(s.layers...)
	slices.SortFunc(all, func(a, b entry) int { return a.came - b.came })
	var out []string
	for _, e := range all {
		out = append(out, e.name)
	}
	return out
}

// Match is the longest name of a scope that stands at a place of some tokens, and how many of these; the word there alone, if none does; 0: no name may begin there.
func (s Scope) Match(ts []lex.Token, at int) (string, int) {
	if !begin(ts, at) {
		return "", 0
	}
	most := 1
	for _, l := range s.layers {
		most = max(most, l.match(ts[at:]))
	}
	return Join(ts[at : at+most]), most
}

// match is of how many pieces the longest name is that some tokens begin with; 0, if none is there.
func (l layer) match(ts []lex.Token) int {
	n, left := 0, choice{names: l}
	for i, t := range ts {
		// The pieces may be many more than a name has, so they are not looked through ahead of it.
		if !piece(t) || len(left.names) == 0 {
			break
		}
		left = left.with(gap(ts, i)).with(t.Text)
		if left.made() {
			n = i + 1
		}
	}
	return n
}

// choice is those names of a layer that begin with what is told so far, and of how many bytes that is.
type choice struct {
	names layer
	told  int
}

// with is those of a choice that go on with a text.
func (c choice) with(text string) choice {
	from := sort.Search(len(c.names), func(i int) bool { return c.names[i].name[c.told:] >= text })
	rest := c.names[from:]
	n := sort.Search(len(rest), func(i int) bool { return !strings.HasPrefix(rest[i].name[c.told:], text) })
	return choice{rest[:n], c.told + len(text)}
}

// made tells whether what is told is one of the names: it comes ahead of all that go on.
func (c choice) made() bool { return len(c.names) > 0 && len(c.names[0].name) == c.told }
