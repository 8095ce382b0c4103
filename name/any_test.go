package name_test

import (
	"math"
	"math/rand"
	"slices"
	"strings"
	"testing"

	"casuist/lex"
	"casuist/name"
)

// Whatever texts are given, each call ends, and beside a false there are no tokens.
func TestW1AnyBytes(t *testing.T) {
	r := rand.New(rand.NewSource(5))
	for range 60000 {
		s := make([]byte, r.Intn(12))
		for i := range s {
			s[i] = byte(r.Intn(256))
			if r.Intn(3) > 0 {
				s[i] &= 0x7f
			}
		}
		checkText(t, string(s))
		checkScope(t, name.Of(string(s), "a"), namesModel(nil, []string{string(s), "a"})...)
	}
	for one := range 256 {
		for two := range 256 {
			checkText(t, string([]byte{byte(one), byte(two)}))
			checkText(t, "a"+string([]byte{byte(one), byte(two)})+"b")
		}
	}
}

// A name with one byte more, less, or another one.
func TestW1OneByteOff(t *testing.T) {
	for _, s := range []string{"order date 12-b.c's \u20ac/in*1", "date and time"} {
		for at := range len(s) + 1 {
			checkText(t, s[:at])
			checkText(t, s[at:])
			for b := range 256 {
				checkText(t, s[:at]+string([]byte{byte(b)})+s[at:])
				if at < len(s) {
					checkText(t, s[:at]+string([]byte{byte(b)})+s[at+1:])
				}
			}
		}
	}
}

// Tokens that no source has are gone by the words as well.
func TestW1AnyTokens(t *testing.T) {
	var bits []lex.Token
	for kind := lex.Kind(-1); kind <= lex.Symbol+1; kind++ {
		for _, text := range []string{"", "a", "b", "a b", "in", "1", "12", "1a", "+", "+-", "*/", "(", " ", "\xff", "\u0661", "''"} {
			bits = append(bits, lex.Token{Kind: kind, Text: text, At: -5})
		}
	}
	bits = append(bits, lex.Token{Kind: math.MaxInt, Text: "a"}, lex.Token{Kind: math.MinInt, Text: "a"})
	names := []string{"a b", "a a", "a b a", "a b 1", "a+", "a+-b", "a*/b", "a b+-", "b a b", "a", "a+b", "a in", "a 12"}
	s := name.Of(names...)
	eachOf(bits, 2, func(ts []lex.Token) {
		for at := -1; at <= len(ts); at++ {
			checkAt(t, s, names, ts, at)
		}
		if got, want := name.Join(ts), joinModel(ts); got != want {
			t.Errorf("Join(%s) = %q, not %q", told(ts), got, want)
		}
		for _, one := range ts {
			if got := name.Begins(one); got != beginsModel(one) {
				t.Errorf("Begins(%s) = %v", told([]lex.Token{one}), got)
			}
		}
	})
	r := rand.New(rand.NewSource(6))
	for range 100000 {
		ts := append([]lex.Token{word([]string{"a", "b", "a b", ""}[r.Intn(4)])}, someOf(r, bits, 5)...)
		checkAt(t, s, names, ts, r.Intn(len(ts)))
	}
	// Numbers and symbols of any bytes.
	for one := range 256 {
		for _, text := range []string{string([]byte{byte(one)}), "1" + string([]byte{byte(one)}), string([]byte{byte(one)}) + "1", "+" + string([]byte{byte(one)}), string([]byte{byte(one)}) + "+"} {
			for kind := lex.Kind(-1); kind <= lex.Symbol+1; kind++ {
				checkAt(t, s, names, []lex.Token{word("a"), {Kind: kind, Text: text}, word("b")}, 0)
			}
		}
	}
	// Two words of which one has the text of two: the name is found by how it is told.
	if got, n := s.Match([]lex.Token{word("a b"), word("a")}, 0); got != "a b a" || n != 2 {
		t.Errorf("of a word \"a b\" and one \"a\" comes %q, %d", got, n)
	}
	if got, n := s.Match([]lex.Token{word("a b")}, 0); got != "a b" || n != 1 {
		t.Errorf("of a word \"a b\" comes %q, %d", got, n)
	}
}

func TestW1Places(t *testing.T) {
	ts := tokens(t, "a b - c")
	s := name.Of("a b", "c")
	for _, at := range []int{math.MinInt, math.MinInt + 1, -1 << 32, -5, -2, -1, len(ts) - 1, len(ts), len(ts) + 1, 1 << 32, math.MaxInt - 1, math.MaxInt} {
		for _, row := range [][]lex.Token{ts, ts[:1:1], {}, nil} {
			if at == len(ts)-1 && len(row) > at && row[at].Kind != lex.End {
				t.Fatal("the last token is the End")
			}
			got, n := s.Match(row, at)
			given, givenN := name.Given(row, at)
			run, runN := name.Run(row, at)
			if got != "" || n != 0 || given != "" || givenN != 0 || run != "" || runN != 0 {
				t.Errorf("at %d of %s comes %q, %d; %q, %d; %q, %d", at, told(row), got, n, given, givenN, run, runN)
			}
		}
	}
}

// Long texts, names and rows take time by their length.
func TestW1LongOnes(t *testing.T) {
	const many = 1 << 18
	for _, s := range []string{"a" + strings.Repeat(" a", many), "a" + strings.Repeat("+", many), "a" + strings.Repeat("'1", many), strings.Repeat("a", many), "a " + strings.Repeat("1", many), "a" + strings.Repeat(" in", many), strings.Repeat("a-", many)} {
		ts, ok := name.Read(s)
		if !ok || name.Join(ts) != s {
			t.Errorf("Read(%s) = %s, %v", short(s), told(ts), ok)
		}
		scope := name.Of(s, "a", s+" b", s+"'").With("a a", s+"' c", s)
		if !scope.Has(s) || scope.Has(s+"''") || len(scope.Names()) < 4 {
			t.Errorf("the names are %s", shorts(scope.Names()))
		}
		if got, n := scope.Match(ts, 0); got != s || n != len(ts) {
			t.Errorf("Match(%s, 0) = %s, %d", told(ts), short(got), n)
		}
		if got, n := scope.Match(append(slices.Clone(ts), symbol("'"), word("d")), 0); got != s+"'" || n != len(ts)+1 {
			t.Errorf("Match(%s ' d, 0) = %s, %d", told(ts), short(got), n)
		}
		if got, n := name.Given(ts, 0); name.Local(s) && (got != s || n != len(ts)) || n == 0 {
			t.Errorf("Given(%s, 0) = %s, %d", told(ts), short(got), n)
		}
		if got, n := name.Run(ts, 0); name.Plain(s) && (got != s || n != len(ts)) || n == 0 {
			t.Errorf("Run(%s, 0) = %s, %d", told(ts), short(got), n)
		}
	}
	for _, s := range []string{strings.Repeat(" ", many) + "a", "a" + strings.Repeat(" ", many), strings.Repeat("a  ", many), strings.Repeat("/", many), "a" + strings.Repeat("(", many), strings.Repeat("in ", many), "1" + strings.Repeat(" a", many), "a" + strings.Repeat(".", many)} {
		if ts, ok := name.Read(s); ok || len(ts) != 0 || name.Plain(s) || name.Local(s) {
			t.Errorf("Read(%s) = %s, %v", short(s), told(ts), ok)
		}
	}
}

// Match takes time by the names' lengths, not by how much stands behind a place.
func TestW1MatchAtEachPlace(t *testing.T) {
	const many = 1 << 18
	ts := tokens(t, strings.Repeat("a ", many))
	for _, s := range []name.Scope{{}, name.Of("a a a", "a a a b", "b")} {
		want, most := s.Match(ts, 0)
		for at := range many - 2 {
			if got, n := s.Match(ts, at); got != want || n != most {
				t.Fatalf("Match at %d is %q, %d", at, got, n)
			}
		}
	}
}

// What is handed in is not changed, and what is answered is new memory.
func TestW6Tokens(t *testing.T) {
	ts := tokens(t, "a b - c in d")
	was := slices.Clone(ts)
	s := name.Of("a b", "a b-c")
	s.Match(ts, 0)
	name.Given(ts, 0)
	name.Run(ts, 0)
	name.Join(ts)
	if !slices.Equal(ts, was) {
		t.Errorf("the tokens are changed: %s", told(ts))
	}
	one, _ := name.Read("a b-c")
	for i := range one {
		one[i] = lex.Token{Text: "x"}
	}
	_ = append(one, word("y"))
	checkText(t, "a b-c")
	checkScope(t, s, "a b", "a b-c")
}
