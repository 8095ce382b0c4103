package name_test

import (
	"math/rand"
	"strings"
	"testing"

	"casuist/lex"
	"casuist/name"
)

func TestP173Match(t *testing.T) {
	for _, x := range []struct {
		names string // between commas
		src   string
		at    int
		want  string
		n     int
	}{
		{"a,a b", "a b c", 0, "a b", 2}, {"a,a b", "in", 0, "", 0},
		// Of two names of which one is the other's beginning, the longer one, but only if all of it stands there.
		{"a b,a b c", "a b c", 0, "a b c", 3}, {"a b,a b c", "a b d", 0, "a b", 2}, {"a b,a b c", "a b", 0, "a b", 2}, {"a b c,a b", "a b c d", 0, "a b c", 3}, {"a b c d", "a b c", 0, "a", 1}, {"a,a b c", "a b", 0, "a", 1}, {"a,a b c", "a b d", 0, "a", 1}, {"a b,a b c d e", "a b c d f", 0, "a b", 2}, {"a,a b,a b c,a b c d", "a b c x", 0, "a b c", 3},
		// One word alone is taken, in the scope or not.
		{"", "a", 0, "a", 1}, {"", "a b", 0, "a", 1}, {"a", "a b", 0, "a", 1}, {"b", "a b", 0, "a", 1}, {"b", "a b", 1, "b", 1}, {"a b", "zz b", 0, "zz", 1}, {"ab", "a b", 0, "a", 1}, {"a b", "ab", 0, "ab", 1}, {"a b", "a bc", 0, "a", 1}, {"a bc", "a b c", 0, "a", 1}, {"a b", "a  b", 0, "a b", 2}, {"a b", "a /* b */ b", 0, "a b", 2}, {"a1", "a 1", 0, "a", 1}, {"a 1", "a1", 0, "a1", 1},
		// Signs, with spaces around them or none.
		{"a+b", "a+b", 0, "a+b", 3}, {"a+b", "a + b", 0, "a+b", 3}, {"a+b", "a +b", 0, "a+b", 3}, {"a+b", "a + c", 0, "a", 1}, {"a-", "a - b", 0, "a-", 2}, {"a-", "a-b", 0, "a-", 2}, {"a-b,a-", "a - b", 0, "a-b", 3}, {"a'", "a 's", 0, "a'", 2}, {"a's", "a 's", 0, "a's", 3}, {"a's,a", "a", 0, "a", 1}, {"a/b", "a / b * c", 0, "a/b", 3}, {"a*", "a * * b", 0, "a*", 2}, {"a*", "a ** b", 0, "a", 1}, {"a.", "a. .", 0, "a.", 2}, {"a.", "a..b", 0, "a", 1}, {"a.b", "a.b.c", 0, "a.b", 3}, {"a.b", "a.b.c", 2, "b", 1}, {"a-1", "a - 1", 0, "a-1", 3}, {"a 1+2", "a 1 + 2", 0, "a 1+2", 4}, {"a-b", "a -> b", 0, "a", 1}, {"a b", "a - b", 0, "a", 1}, {"a-b", "a b", 0, "a", 1}, {"a", "a -b", 0, "a", 1},
		// Numbers.
		{"a 1", "a 1", 0, "a 1", 2}, {"a 1", "a 1.5", 0, "a", 1}, {"a 1", "a 1E5", 0, "a", 1}, {"a 1", "a 01", 0, "a", 1}, {"a 1", "a 12", 0, "a", 1}, {"a 12", "a 1 2", 0, "a", 1}, {"a 1 2,a 1", "a 1 2", 0, "a 1 2", 3}, {"a 1.", "a 1. b", 0, "a 1.", 3}, {"a 1", "1 a 1", 1, "a 1", 2}, {"a 1", "1 a 1", 0, "", 0},
		// Keywords within a name, but not at its beginning.
		{"date and time", "date and time(x)", 0, "date and time", 3}, {"date and time", "date and x", 0, "date", 1}, {"date and time", "date", 0, "date", 1}, {"date and time", "date and time", 1, "", 0}, {"date and time", "date and time", 2, "time", 1}, {"x in", "x in y", 0, "x in", 2}, {"a of b,a of", "a of b", 0, "a of b", 3}, {"a if+then", "a if + then else", 0, "a if+then", 4},
		// What is no piece ends it.
		{"a b", "a (b)", 0, "a", 1}, {"a b", "a \"b\"", 0, "a", 1}, {"a b", "a @\"b\"", 0, "a", 1}, {"a b", "a, b", 0, "a", 1}, {"a b", "a b, c", 0, "a b", 2}, {"a b", "(a b)", 0, "", 0}, {"a b", "(a b)", 1, "a b", 2}, {"a b", "\"a\" b", 0, "", 0}, {"a b", "@\"a\" b", 0, "", 0}, {"a b", "+ a b", 0, "", 0}, {"a b", "' a b", 0, "", 0}, {"a b", "(a b)", 3, "", 0},
		// Places.
		{"a,a b", "a b", 1, "b", 1}, {"a,a b", "a b", 2, "", 0}, {"a,a b", "a b", 3, "", 0}, {"a,a b", "a b", 99, "", 0}, {"a,a b", "a b", -1, "", 0}, {"a,a b", "a b", -99, "", 0}, {"a,a b", "", 0, "", 0}, {"a,a b", "", 1, "", 0}, {"b c", "a b c", 1, "b c", 2}, {"b c", "a b c", 0, "a", 1},
		{"\u20ac \u00e9", "\u20ac \u00e9 1", 0, "\u20ac \u00e9", 2},
	} {
		names := strings.Split(x.names, ",")
		ts := tokens(t, x.src)
		if got, n := name.Of(names...).Match(ts, x.at); got != x.want || n != x.n {
			t.Errorf("of %s: Match(%q, %d) = %q, %d, not %q, %d", x.names, x.src, x.at, got, n, x.want, x.n)
		}
		checkPlaces(t, names, ts)
		checkPlaces(t, names, ts[:len(ts)-1])
	}
}

// The zero scope, and tokens that are none.
func TestP173Zero(t *testing.T) {
	var none name.Scope
	for _, x := range []struct {
		ts   []lex.Token
		at   int
		want string
		n    int
	}{{nil, 0, "", 0}, {nil, -1, "", 0}, {nil, 1, "", 0}, {[]lex.Token{}, 0, "", 0}, {[]lex.Token{word("a")}, 0, "a", 1}, {[]lex.Token{word("a"), word("b")}, 0, "a", 1}, {[]lex.Token{word("a"), word("b")}, 1, "b", 1}, {[]lex.Token{word("a")}, 1, "", 0}, {[]lex.Token{{}}, 0, "", 0}, {[]lex.Token{word("of")}, 0, "", 0}} {
		for _, s := range []name.Scope{none, name.Of(), none.With("1", "of")} {
			if got, n := s.Match(x.ts, x.at); got != x.want || n != x.n {
				t.Errorf("Match(%s, %d) = %q, %d, not %q, %d", told(x.ts), x.at, got, n, x.want, x.n)
			}
		}
	}
}

// The names stand in whatever part of a scope they came with.
func TestP173Parts(t *testing.T) {
	names := []string{"a b c", "a", "a b c d e", "b", "a b", "c d", "a+b", "a b c d", "x", "a-b", "b c d e f"}
	s := name.Scope{}
	for i, n := range names {
		s = s.With(n, "y"+string(rune('a'+i)))
		for _, src := range []string{"a b c d e f", "a b c", "a + b - a - b", "a b c d f", "a b x", "c d e", "b c d e f"} {
			for at := range tokens(t, src) {
				checkAt(t, s, names[:i+1], tokens(t, src), at)
			}
		}
	}
}

// All short rows of tokens, with several scopes.
func TestP173ShortRows(t *testing.T) {
	bits := []lex.Token{word("a"), word("b"), word("in"), number("1"), number("1.5"), symbol("+"), symbol("."), symbol("("), {Kind: lex.String, Text: "a"}, {Kind: lex.Temporal, Text: "a"}, {}}
	for _, names := range [][]string{nil, {"a b", "a in b", "a+b", "a b 1", "b.", "b"}, {"a", "a a", "a a a a", "a 1", "a 1+b", "a(", "a\"a\""}} {
		s := name.Of(names...)
		eachOf(bits, 4, func(ts []lex.Token) {
			for at := -1; at <= len(ts); at++ {
				checkAt(t, s, names, ts, at)
			}
		})
	}
}

// Rows at random, with scopes of parts of them.
func TestP173Random(t *testing.T) {
	r := rand.New(rand.NewSource(4))
	bits := []lex.Token{word("a"), word("b"), word("ab"), word("in"), word("of"), number("1"), number("2"), symbol("+"), symbol("-"), symbol("'"), symbol("/"), symbol("*"), symbol("."), symbol("(")}
	long := 0
	for range 40000 {
		ts := someOf(r, bits, 14)
		var names []string
		for range r.Intn(12) {
			if len(ts) > 0 {
				from := r.Intn(len(ts))
				part := ts[from : from+min(len(ts)-from, 1+r.Intn(6))]
				if r.Intn(3) == 0 {
					part = append(part[:len(part):len(part)], bits[r.Intn(len(bits))])
				}
				names = append(names, joinModel(part))
			}
		}
		s := name.Scope{}
		for from := 0; from < len(names); {
			to := from + 1 + r.Intn(len(names)-from)
			s, from = s.With(names[from:to]...), to
		}
		names = namesModel(nil, names)
		for at := -1; at <= len(ts); at++ {
			checkAt(t, s, names, ts, at)
			if _, n := matchModel(names, ts, at); n > 2 {
				long++
			}
		}
	}
	if long < 5000 {
		t.Errorf("%d long names alone tell little", long)
	}
}

func TestP174GivenRun(t *testing.T) {
	for _, x := range []struct {
		src    string
		at     int
		given  string
		givenN int
		run    string
		runN   int
	}{
		{"x y in z", 0, "x y", 2, "x y", 2}, {"a.b", 0, "a.b", 3, "a", 1}, {"a", 0, "a", 1, "a", 1}, {"a b c d", 0, "a b c d", 4, "a b c d", 4}, {"a b c d", 2, "c d", 2, "c d", 2}, {"a 1 b 2", 0, "a 1 b 2", 4, "a 1 b 2", 4}, {"a 1 b 2", 1, "", 0, "", 0},
		{"x-y 1:", 0, "x-y 1", 4, "x", 1}, {"a b - c d", 0, "a b-c d", 5, "a b", 2}, {"a + b * c", 0, "a+b*c", 5, "a", 1}, {"a's b", 0, "a's b", 4, "a", 1}, {"a / /", 0, "a//", 3, "a", 1}, {"a *", 0, "a*", 2, "a", 1}, {"a + - * / . '", 0, "a+-*/.'", 7, "a", 1},
		{"a and b", 0, "a", 1, "a", 1}, {"a - and", 0, "a-", 2, "a", 1}, {"a b between 1", 0, "a b", 2, "a b", 2}, {"and b", 0, "", 0, "", 0}, {"a and b", 1, "", 0, "", 0}, {"a and b", 2, "b", 1, "b", 1}, {"a ands b", 0, "a ands b", 3, "a ands b", 3},
		{"a 1.5", 0, "a", 1, "a", 1}, {"a 1E5", 0, "a", 1, "a", 1}, {"a 1 1.5", 0, "a 1", 2, "a 1", 2}, {"a-1.5", 0, "a-", 2, "a", 1}, {"a .5", 0, "a", 1, "a", 1},
		{"a b(c)", 0, "a b", 2, "a b", 2}, {"a: b", 0, "a", 1, "a", 1}, {"a ** b", 0, "a", 1, "a", 1}, {"a * * b", 0, "a**b", 4, "a", 1}, {"a..b", 0, "a", 1, "a", 1}, {"a . . b", 0, "a..b", 4, "a", 1}, {"a -> b", 0, "a", 1, "a", 1}, {"a \"b\" c", 0, "a", 1, "a", 1}, {"a @\"b\" c", 0, "a", 1, "a", 1}, {"\"a\" b", 0, "", 0, "", 0}, {"@\"a\"", 0, "", 0, "", 0}, {"(a)", 0, "", 0, "", 0}, {"(a)", 1, "a", 1, "a", 1}, {"- a", 0, "", 0, "", 0}, {"1 a", 0, "", 0, "", 0}, {"a = b", 0, "a", 1, "a", 1}, {"a < b", 0, "a", 1, "a", 1}, {"a > b", 0, "a", 1, "a", 1}, {"a, b", 0, "a", 1, "a", 1}, {"a ] b", 0, "a", 1, "a", 1},
		{"a b", 2, "", 0, "", 0}, {"a b", 3, "", 0, "", 0}, {"a b", 99, "", 0, "", 0}, {"a b", -1, "", 0, "", 0}, {"a b", -99, "", 0, "", 0}, {"", 0, "", 0, "", 0}, {"", -1, "", 0, "", 0}, {"", 1, "", 0, "", 0},
		{"\u20ac  \u00e9/**/1", 0, "\u20ac \u00e9 1", 3, "\u20ac \u00e9 1", 3},
	} {
		ts := tokens(t, x.src)
		if got, n := name.Given(ts, x.at); got != x.given || n != x.givenN {
			t.Errorf("Given(%q, %d) = %q, %d, not %q, %d", x.src, x.at, got, n, x.given, x.givenN)
		}
		if got, n := name.Run(ts, x.at); got != x.run || n != x.runN {
			t.Errorf("Run(%q, %d) = %q, %d, not %q, %d", x.src, x.at, got, n, x.run, x.runN)
		}
		checkPlaces(t, nil, ts)
		checkPlaces(t, nil, ts[:len(ts)-1])
	}
	for _, w := range strings.Fields(keywords) {
		for _, src := range []string{w, w + " a", "a " + w, "a " + w + " b", "a b-" + w, "a1 " + w + " " + w, "a " + w + "s " + w} {
			checkPlaces(t, []string{"a " + w, "a b-" + w}, tokens(t, src))
		}
	}
}

// Of all rows of pieces, Given takes those up to a keyword, and Run those up to a sign.
func TestP174ShortRows(t *testing.T) {
	bits := []lex.Token{word("a"), word("for"), number("1"), number(".5"), symbol("+"), symbol("-"), symbol("*"), symbol("/"), symbol("."), symbol("'"), symbol(","), symbol(".."), {Kind: lex.String}}
	eachOf(bits, 4, func(ts []lex.Token) {
		checkAt(t, name.Scope{}, nil, ts, 0)
		checkAt(t, name.Scope{}, nil, append([]lex.Token{word("b")}, ts...), 0)
	})
}
