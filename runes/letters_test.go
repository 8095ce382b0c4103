package runes_test

import (
	"math/rand"
	"slices"
	"strings"
	"testing"
	"unicode"

	"casuist/runes"
)

// checkCases holds Upper and Lower to texts: to their bytes if s is UTF-8, else to their runes alone, as the chapter says no more.
func checkCases(t *testing.T, s, upper, lower string) {
	t.Helper()
	alike := func(got, want string) bool {
		return slices.Equal([]rune(got), []rune(want)) && (got == want || !validModel(s))
	}
	if got := runes.Upper(s); !alike(got, upper) {
		t.Errorf("Upper(%q) = %q, not %q", s, got, upper)
	}
	if got := runes.Lower(s); !alike(got, lower) {
		t.Errorf("Lower(%q) = %q, not %q", s, got, lower)
	}
}

func checkReverse(t *testing.T, s, want string) {
	t.Helper()
	if got := runes.Reverse(s); got != want {
		t.Errorf("Reverse(%q) = %q, not %q", s, got, want)
	}
}

func TestP152UpperAndLower(t *testing.T) {
	for _, x := range []struct{ s, upper, lower string }{
		{"", "", ""}, {"a", "A", "a"}, {"z", "Z", "z"}, {"A", "A", "a"}, {"Z", "Z", "z"}, {"m", "M", "m"}, {"M", "M", "m"},
		{"`", "`", "`"}, {"{", "{", "{"}, {"@", "@", "@"}, {"[", "[", "["}, {"_", "_", "_"}, {"0123456789", "0123456789", "0123456789"}, {" \t\r\n", " \t\r\n", " \t\r\n"}, {"\x00\x7f", "\x00\x7f", "\x00\x7f"},
		{smalls, greats, smalls}, {greats, greats, smalls}, {"Foo Bar", "FOO BAR", "foo bar"}, {"`az{@AZ[", "`AZ{@AZ[", "`az{@az["},
		// Letters beyond ASCII stay, also those that other rules would change, and those whose low bits are a letter's.
		{"a\u00e9", "A\u00e9", "a\u00e9"}, {"\u00e9\u00c9", "\u00e9\u00c9", "\u00e9\u00c9"}, {"\u00df", "\u00df", "\u00df"}, {"\u0131i", "\u0131I", "\u0131i"}, {"\u0130I", "\u0130I", "\u0130i"}, {"\u017fs\u212ak", "\u017fS\u212aK", "\u017fs\u212ak"}, {"\u03b1\u0391", "\u03b1\u0391", "\u03b1\u0391"}, {"\uff41\uff21", "\uff41\uff21", "\uff41\uff21"},
		{"\u00e1\u00c1\u0161\u0141", "\u00e1\u00c1\u0161\u0141", "\u00e1\u00c1\u0161\u0141"}, {"\U00010461\U00010441", "\U00010461\U00010441", "\U00010461\U00010441"}, {"\U0001f600a", "\U0001f600A", "\U0001f600a"}, {"\ufffda", "\ufffdA", "\ufffda"}, {"e\u0301", "E\u0301", "e\u0301"},
		// Of a text that is not UTF-8 the letters are changed as well.
		{"\xffa\xffZ", "\ufffdA\ufffdZ", "\ufffda\ufffdz"}, {"\xc3a", "\ufffdA", "\ufffda"}, {"a\xe2\x82", "A\ufffd\ufffd", "a\ufffd\ufffd"}, {"\xe1\xc1", "\ufffd\ufffd", "\ufffd\ufffd"},
	} {
		checkCases(t, x.s, x.upper, x.lower)
	}
}

func TestP152EachRuneItsCase(t *testing.T) {
	for r := rune(0); r <= unicode.MaxRune; r++ {
		s := string(r)
		upper, lower := s, s
		if at := strings.IndexRune(smalls, r); at >= 0 {
			upper = greats[at : at+1]
		}
		if at := strings.IndexRune(greats, r); at >= 0 {
			lower = smalls[at : at+1]
		}
		if runes.Upper(s) != upper || runes.Lower(s) != lower {
			t.Fatalf("of %q Upper is %q, Lower %q", s, runes.Upper(s), runes.Lower(s))
		}
	}
}

func TestP152CasesByTheWords(t *testing.T) {
	for _, s := range texts() {
		checkCases(t, s, string(upperModel(s)), string(lowerModel(s)))
	}
	r := rand.New(rand.NewSource(1520))
	for range 20000 {
		s := someText(r, 12)
		checkCases(t, s, string(upperModel(s)), string(lowerModel(s)))
	}
	long := strings.Repeat("aZ\u20ac", 1<<19)
	checkCases(t, long, strings.Repeat("AZ\u20ac", 1<<19), strings.Repeat("az\u20ac", 1<<19))
}

func TestP152Reverse(t *testing.T) {
	for _, x := range []struct{ s, want string }{
		{"", ""}, {"a", "a"}, {"ab", "ba"}, {"abc", "cba"}, {"foobar", "raboof"}, {"a\u00e9\U0001f600", "\U0001f600\u00e9a"}, {"a\u00e9\u20ac\U0001f600", "\U0001f600\u20ac\u00e9a"}, {"e\u0301", "\u0301e"}, {"\r\n", "\n\r"}, {"a\x00", "\x00a"}, {"\ufffda", "a\ufffd"},
		// A byte that begins no rune is told as the rune that stands for it: bytes that were no rune do not become one.
		{"\xff", "\ufffd"}, {"\xff\xfe", "\ufffd\ufffd"}, {"\xffa", "a\ufffd"}, {"a\xff", "\ufffda"}, {"a\xffb", "b\ufffda"}, {"\xa9\xc3", "\ufffd\ufffd"}, {"\xc3a", "a\ufffd"}, {"\u20ac\xe2\x82", "\ufffd\ufffd\u20ac"}, {"\xac\x82\xe2", "\ufffd\ufffd\ufffd"}, {"\xed\xa0\x80a", "a\ufffd\ufffd\ufffd"}, {"\ufffd\xffa", "a\ufffd\ufffd"},
	} {
		checkReverse(t, x.s, x.want)
	}
}

func TestP152ReverseByTheWords(t *testing.T) {
	check := func(s string) {
		t.Helper()
		checkReverse(t, s, reverseModel(s))
		if twice := runes.Reverse(runes.Reverse(s)); twice != textOf(runesOf(s)) {
			t.Errorf("of %q Reverse twice is %q", s, twice)
		}
	}
	for _, s := range texts() {
		check(s)
	}
	r := rand.New(rand.NewSource(1521))
	for range 20000 {
		check(someText(r, 12))
	}
	long := strings.Repeat("a\u20ac\xff", 1<<19)
	checkReverse(t, long, strings.Repeat("\ufffd\u20aca", 1<<19))
}
