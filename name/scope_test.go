package name_test

import (
	"math/rand"
	"slices"
	"strconv"
	"strings"
	"testing"

	"casuist/name"
)

func TestP172Scopes(t *testing.T) {
	checkScope(t, name.Scope{})
	checkScope(t, name.Of())
	checkScope(t, name.Of(nil...))
	checkScope(t, name.Of([]string{}...))
	checkScope(t, name.Scope{}.With())
	checkScope(t, name.Of("a"), "a")
	checkScope(t, name.Of("b", "a"), "b", "a")
	checkScope(t, name.Of("a", "b", "a", "c", "b", "a"), "a", "b", "c")
	checkScope(t, name.Of("c", "b", "a").With("b", "d", "c", "a1", "d"), "c", "b", "a", "d", "a1")
	checkScope(t, name.Scope{}.With("x", "a"), "x", "a")
	checkScope(t, name.Of().With("b").With("a").With("b", "a").With(), "b", "a")
	checkScope(t, name.Of("a").With(), "a")
	checkScope(t, name.Of("a").With("a"), "a")
	checkScope(t, name.Of("a", "a b", "a+b", "(", "date and time", "a"), "a", "a b", "a+b", "date and time")
	checkScope(t, name.Of("", " ", "in", "1", "a ", " a", "a  b", "a - b", "a-b", "1a", "a(", "\xff", "a\xff", "\"a\"", "a 1.5", "if x", "x if"), "a-b", "x if")
	checkScope(t, name.Of("in", "a", "", "a").With("(", "in", "b", " "), "a", "b")
	checkScope(t, name.Of("", "1", "in"))
	checkScope(t, name.Of("z", "y").With("b", "a").With("n", "m").With("z", "c"), "z", "y", "b", "a", "n", "m", "c")
	// None of these is among the others, though they are alike.
	alike := []string{"a", "A", "a1", "a 1", "a b", "ab", "a_b", "a-b", "a+b", "a*b", "a/b", "a.b", "a'b", "a'", "a-", "\u00e9", "e\u0301", "a b c", "a bc", "ab c"}
	checkScope(t, name.Of(alike...), alike...)
}

func TestP172Has(t *testing.T) {
	s := name.Of("a", "a b", "order date", "b+c", "\u20ac", "(", "in")
	for _, n := range []string{"", " ", "b", "A", "a ", " a", "a  b", "a b ", "a bc", "a b c", "a\tb", "order", "date", "order dat", "order datf", "order date 1", "b", "b+", "b+c+", "b + c", "c", "(", "in", "\u20ac1", "\xe2", "\u20ad", "\xff", "\x00"} {
		if s.Has(n) {
			t.Errorf("%q is not among them", n)
		}
		if name.Of().Has(n) || (name.Scope{}).Has(n) {
			t.Errorf("%q is in a scope without names", n)
		}
	}
	for _, n := range []string{"a", "a b", "order date", "b+c", "\u20ac"} {
		if !s.Has(n) {
			t.Errorf("%q is among them", n)
		}
	}
}

// A scope that another one was made of stays as it was, and so do two that were made of one.
func TestP172TwoOfOne(t *testing.T) {
	for size := range 40 {
		var names []string
		one := name.Scope{}
		for i := range size {
			names = append(names, "n"+strconv.Itoa(i*7%40))
			one = one.With(names[i])
		}
		a, b := one.With("a"), one.With("b", "n1")
		c := a.With("b c", "b")
		d, e := a.With("d"), b.With("a")
		more := func(rest ...string) []string { return namesModel(names, rest) }
		for range 2 {
			checkScope(t, one, names...)
			checkScope(t, a, more("a")...)
			checkScope(t, b, more("b", "n1")...)
			checkScope(t, c, more("a", "b c", "b")...)
			checkScope(t, d, more("a", "d")...)
			checkScope(t, e, more("b", "n1", "a")...)
			if one.Has("a") || one.Has("b") || a.Has("b") || b.Has("a") || a.Has("b c") || d.Has("b") || d.Has("b c") || e.Has("d") {
				t.Errorf("of %d names one scope has another's name", size)
			}
		}
	}
}

// What is handed over or answered may be changed: the scope stays as it is.
func TestW6Names(t *testing.T) {
	names := []string{"b", "in", "a", "b", "c d"}
	handed := slices.Clone(names)
	s := name.Of(handed...)
	more := s.With(handed...)
	if !slices.Equal(handed, names) {
		t.Errorf("what is handed over is changed: %s", shorts(handed))
	}
	for i := range handed {
		handed[i] = "x"
	}
	for range 2 {
		checkScope(t, s, "b", "a", "c d")
		checkScope(t, more, "b", "a", "c d")
		for _, one := range []name.Scope{s, more} {
			got := one.Names()
			_ = append(got, "z")
			for i := range got {
				got[i] = "y"
			}
		}
	}
	if s.Has("x") || s.Has("y") || s.Has("z") {
		t.Error("a name came into the scope from outside")
	}
}

// Scopes at random, from one another, against plain lists.
func TestP172Random(t *testing.T) {
	r := rand.New(rand.NewSource(3))
	bits := []string{"a", "b", "c", "a b", "a+b", "in", "", "1", "(", "a  b", "date and time", "x.y"}
	for i := range 30 {
		bits = append(bits, "n "+strconv.Itoa(i), "m"+strconv.Itoa(i))
	}
	told := 0
	for range 300 {
		scopes, lists := []name.Scope{{}}, [][]string{nil}
		for range 60 {
			from := r.Intn(len(scopes))
			more := someOf(r, bits, 1+r.Intn(9))
			if r.Intn(10) == 0 {
				more = someOf(r, bits, 200)
			}
			if r.Intn(8) == 0 {
				scopes, lists = append(scopes, name.Of(more...)), append(lists, namesModel(nil, more))
			} else {
				scopes, lists = append(scopes, scopes[from].With(more...)), append(lists, namesModel(lists[from], more))
			}
		}
		for i, s := range scopes {
			checkScope(t, s, lists[i]...)
			told += len(lists[i])
			for _, n := range bits {
				if s.Has(n) != slices.Contains(lists[i], n) {
					t.Errorf("of %s: Has(%q) = %v", shorts(lists[i]), n, s.Has(n))
				}
			}
		}
	}
	if told < 100000 {
		t.Errorf("%d names alone tell little", told)
	}
}

// Many names, handed over at once, one by one, or in ever greater or ever smaller parts, take no more than time by how many they are.
func TestP172Many(t *testing.T) {
	const many = 1 << 17
	var names []string
	for i := range many {
		names = append(names, "n"+strconv.Itoa(i*77773%many))
	}
	ways := map[string]func() name.Scope{
		"at once": func() name.Scope { return name.Of(names...) },
		"one by one": func() name.Scope {
			s := name.Scope{}
			for _, n := range names {
				s = s.With(n)
			}
			return s
		},
		"in parts": func() name.Scope {
			s := name.Scope{}
			for at, size := 0, 1; at < many; at, size = at+size, size+1 {
				s = s.With(names[at:min(many, at+size)]...)
			}
			return s
		},
		"in smaller parts": func() name.Scope {
			s := name.Scope{}
			for at := 0; at < many; {
				size := (many - at + 1) / 2
				s = s.With(names[at : at+size]...)
				at += size
			}
			return s
		},
		"twice each": func() name.Scope { return name.Of(names...).With(names...).With(names[0]) },
	}
	for way, of := range ways {
		s := of()
		if got := s.Names(); !slices.Equal(got, names) {
			t.Errorf("%s: the names are %s", way, shorts(got))
		}
		for _, n := range names {
			if !s.Has(n) || s.Has(n+"x") {
				t.Errorf("%s: %s is among them, but not with an x", way, n)
				break
			}
		}
		ts := tokens(t, strings.Join(names, " "))
		for at, n := range names {
			if got, count := s.Match(ts, at); got != n || count != 1 {
				t.Errorf("%s: Match at %d is %s, %d", way, at, short(got), count)
				break
			}
		}
	}
	// Names that are there already, or none, cost nothing later on.
	s := name.Of("a b", "c")
	for range many {
		s = s.With().With("c").With("in")
	}
	checkScope(t, s, "a b", "c")
	same := slices.Repeat([]string{"a", "in", "b"}, many)
	checkScope(t, name.Of(same...), "a", "b")
	checkScope(t, name.Of(same...).With(same...), "a", "b")
}
