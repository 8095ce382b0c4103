package runes_test

import (
	"math/rand"
	"slices"
	"strings"
	"testing"

	"casuist/runes"
)

func checkAround(t *testing.T, s, part, before, after string) {
	t.Helper()
	if got := runes.Before(s, part); got != before {
		t.Errorf("Before(%q, %q) = %q, not %q", s, part, got, before)
	}
	if got := runes.After(s, part); got != after {
		t.Errorf("After(%q, %q) = %q, not %q", s, part, got, after)
	}
}

func checkSplit(t *testing.T, s, part string, want ...string) {
	t.Helper()
	if got := runes.Split(s, part); !slices.Equal(got, want) {
		t.Errorf("Split(%q, %q) = %q, not %q", s, part, got, want)
	}
}

func checkReplace(t *testing.T, s, part, by, want string) {
	t.Helper()
	if got := runes.Replace(s, part, by); got != want {
		t.Errorf("Replace(%q, %q, %q) = %q, not %q", s, part, by, got, want)
	}
}

func TestP153BeforeAndAfter(t *testing.T) {
	for _, x := range []struct{ s, part, before, after string }{
		{"foobar", "bar", "foo", ""}, {"foobar", "ob", "fo", "ar"}, {"foobar", "foo", "", "bar"}, {"foobar", "o", "f", "obar"}, {"foobar", "f", "", "oobar"}, {"foobar", "r", "fooba", ""}, {"foobar", "foobar", "", ""},
		{"foobar", "x", "", ""}, {"foobar", "foobarx", "", ""}, {"foobar", "xfoobar", "", ""}, {"foobar", "FOO", "", ""}, {"foobar", "of", "", ""}, {"foobar", "arx", "", ""},
		{"abc", "", "", "abc"}, {"", "", "", ""}, {"", "a", "", ""}, {"a", "a", "", ""}, {"a", "", "", "a"}, {"a", "aa", "", ""},
		{"abab", "ab", "", "ab"}, {"abab", "b", "a", "ab"}, {"aaa", "aa", "", "a"}, {"baaa", "aa", "b", "a"}, {"a,,b", ",", "a", ",b"}, {",a", ",", "", "a"}, {"a,", ",", "a", ""}, {"aab", "ab", "a", ""}, {"ababc", "abc", "ab", ""}, {"aabaabaaab", "aabaaa", "aab", "b"},
		{"a\u00e9b", "\u00e9", "a", "b"}, {"\u20ac\U0001f600\u00e9", "\U0001f600", "\u20ac", "\u00e9"}, {"\u00e9\u20ac", "\u20ac", "\u00e9", ""}, {"\u00e9", "e", "", ""}, {"\u00e9", "\u00e8", "", ""}, {"\u00e9", "e\u0301", "", ""}, {"e\u0301", "e", "", "\u0301"}, {"a\x00b", "\x00", "a", "b"},
		{"a\ufffdb", "\ufffd", "a", "b"}, {"a\xffb", "b", "a\xff", ""}, {"a\xffb", "a", "", "\xffb"}, {"a\xffb", "\xff", "a", "b"}, {"a\xff\xfeb", "\xfe", "a\xff", "b"},
		// A part stands where its bytes stand: also within a rune's, but not where others tell the same rune.
		{"a\xffb", "\ufffd", "", ""}, {"a\ufffdb", "\xff", "", ""}, {"\xfe", "\xff", "", ""}, {"\u00e9", "\xc3", "", "\xa9"}, {"\u00e9", "\xa9", "\xc3", ""}, {"a\u20acb", "\x82", "a\xe2", "\xacb"}, {"a\u20acb", "\xacb", "a\xe2\x82", ""}, {"a\u20acb", "a\xe2", "", "\x82\xacb"}, {"\u00e9\u20ac", "\xa9\xe2", "\xc3", "\x82\xac"}, {"\xe2\x82", "\u20ac", "", ""},
	} {
		checkAround(t, x.s, x.part, x.before, x.after)
	}
}

func TestP153Split(t *testing.T) {
	for _, x := range []struct {
		s, part string
		want    []string
	}{
		{"a,,b", ",", []string{"a", "", "b"}}, {"a,b,c", ",", []string{"a", "b", "c"}}, {",", ",", []string{"", ""}}, {",,", ",", []string{"", "", ""}}, {",a,", ",", []string{"", "a", ""}}, {"a", ",", []string{"a"}}, {"foobar", "foobar", []string{"", ""}}, {"foobar", "foobarx", []string{"foobar"}}, {"foobar", "o", []string{"f", "", "bar"}}, {"foobar", "oo", []string{"f", "bar"}}, {"foobar", "x", []string{"foobar"}}, {"foobar", "O", []string{"foobar"}},
		// What stands nowhere leaves one piece, also of a text with nothing in it.
		{"", ",", []string{""}}, {"", "foo", []string{""}},
		{"aaa", "aa", []string{"", "a"}}, {"aaaa", "aa", []string{"", "", ""}}, {"aaaaa", "aa", []string{"", "", "a"}}, {"ababa", "aba", []string{"", "ba"}}, {"abababa", "aba", []string{"", "b", ""}}, {"baaab", "aa", []string{"b", "ab"}}, {"a--b---c", "--", []string{"a", "b", "-c"}},
		{"", "", nil}, {"a", "", []string{"a"}}, {"ab", "", []string{"a", "b"}}, {"a\u00e9", "", []string{"a", "\u00e9"}}, {"a\u00e9\u20ac\U0001f600", "", []string{"a", "\u00e9", "\u20ac", "\U0001f600"}}, {"e\u0301", "", []string{"e", "\u0301"}}, {"aa", "", []string{"a", "a"}}, {"\ufffda", "", []string{"\ufffd", "a"}},
		{"\xff", "", []string{"\ufffd"}}, {"a\xff\xfeb", "", []string{"a", "\ufffd", "\ufffd", "b"}}, {"\u20ac\xe2\x82", "", []string{"\u20ac", "\ufffd", "\ufffd"}}, {"\xc3a", "", []string{"\ufffd", "a"}}, {"\xed\xa0\x80", "", []string{"\ufffd", "\ufffd", "\ufffd"}},
		{"\u00e9,\u20ac", ",", []string{"\u00e9", "\u20ac"}}, {"a\u20acb\u20ac", "\u20ac", []string{"a", "b", ""}}, {"a\U0001f600\U0001f600b", "\U0001f600", []string{"a", "", "b"}},
		{"\xff,\xfe", ",", []string{"\xff", "\xfe"}}, {"a\xffb\xff", "\xff", []string{"a", "b", ""}}, {"\xff\ufffd\xff", "\ufffd", []string{"\xff", "\xff"}}, {"\u00e9\u00e9", "\xc3", []string{"", "\xa9", "\xa9"}}, {"\u00e9\u00e9", "\xa9", []string{"\xc3", "\xc3", ""}}, {"\u00e9\u00e9", "\xa9\xc3", []string{"\xc3", "\xa9"}},
	} {
		checkSplit(t, x.s, x.part, x.want...)
	}
}

func TestP153Replace(t *testing.T) {
	for _, x := range []struct{ s, part, by, want string }{
		{"aXbX", "X", "--", "a--b--"}, {"Xa", "X", "--", "--a"}, {"X", "X", "--", "--"}, {"XX", "X", "--", "----"}, {"aXb", "X", "", "ab"}, {"XX", "X", "", ""}, {"aXXb", "XX", "Y", "aYb"}, {"foobar", "o", "0", "f00bar"}, {"foobar", "foobar", "x", "x"}, {"foobar", "foobar", "", ""}, {"foobar", "foobarx", "y", "foobar"}, {"foobar", "x", "y", "foobar"}, {"foobar", "O", "y", "foobar"},
		{"ab", "", "x", "ab"}, {"", "", "x", ""}, {"", "", "", ""}, {"", "a", "x", ""}, {"a\xff", "", "x", "a\xff"}, {"\u00e9\xc3", "", "", "\u00e9\xc3"},
		{"aaa", "aa", "b", "ba"}, {"aaaa", "aa", "b", "bb"}, {"aaa", "aa", "a", "aa"}, {"aaaa", "aa", "a", "aa"}, {"ababa", "aba", "x", "xba"},
		// What is put in is not looked through again.
		{"aa", "a", "a", "aa"}, {"aa", "a", "aa", "aaaa"}, {"aab", "ab", "b", "ab"}, {"abb", "ab", "a", "ab"}, {"a", "a", "$0\\1&", "$0\\1&"}, {"a.b", ".", "*", "a*b"}, {"ab", ".", "*", "ab"},
		{"a\u00e9a", "\u00e9", "\u20ac", "a\u20aca"}, {"\U0001f600", "\U0001f600", "\u00e9", "\u00e9"}, {"\ufffd\xff", "\ufffd", "a", "a\xff"}, {"\ufffd\xff", "\xff", "a", "\ufffda"}, {"a\xffb", "a", "\xfe", "\xfe\xffb"}, {"\u00e9", "\xa9", "\xa8", "\u00e8"}, {"\u00e9", "\xc3", "", "\xa9"}, {"\u20ac\u20ac", "\xac\xe2", "", "\xe2\x82\x82\xac"},
	} {
		checkReplace(t, x.s, x.part, x.by, x.want)
	}
}

func checkParts(t *testing.T, s, part, by string) {
	t.Helper()
	checkAround(t, s, part, beforeModel(s, part), afterModel(s, part))
	checkSplit(t, s, part, splitModel(s, part)...)
	checkReplace(t, s, part, by, replaceModel(s, part, by))
	checkReplace(t, s, part, part, s)
	checkReplace(t, s, part, part+part, replaceModel(s, part, part+part))
	checkReplace(t, s, part, "", replaceModel(s, part, ""))
}

func TestP153EachPair(t *testing.T) {
	for _, s := range texts() {
		for _, part := range append(bits(), "", "ab", "aa", "bar", s) {
			checkParts(t, s, part, "<>")
		}
	}
}

// Each piece of a text, from byte to byte, stands in it.
func TestP153EachPiece(t *testing.T) {
	for _, s := range []string{"foobar", "aabaabaaab", "a\u00e9\u20ac\U0001f600\xff\ufffd", "\u00e9\u00e9\u00e8\u00e9", "\xe2\x82\u20ac\xe2\x82\xac\xac"} {
		for from := range s {
			for to := from; to <= len(s); to++ {
				checkParts(t, s, s[from:to], "<>")
			}
		}
		for from := range len(s) {
			for to := from; to <= len(s); to++ {
				checkParts(t, s, s[from:to], "\xa9")
			}
		}
	}
}

func TestP153ByTheWords(t *testing.T) {
	r := rand.New(rand.NewSource(1530))
	often := 0
	for range 20000 {
		s, part, by := someText(r, 16), someText(r, 2), someText(r, 2)
		if r.Intn(3) == 0 {
			// A piece of the text, so that it stands there.
			from := r.Intn(len(s) + 1)
			part = s[from:min(from+1+r.Intn(3), len(s))]
		}
		checkParts(t, s, part, by)
		if part != "" && len(splitModel(s, part)) > 2 {
			often++
		}
	}
	if often < 2000 {
		t.Error("the texts tell little:", often)
	}
}

func TestP153LongOnes(t *testing.T) {
	const many = 1 << 20
	row := strings.Repeat("a,", many)
	pieces := append(slices.Repeat([]string{"a"}, many), "")
	checkSplit(t, row, ",", pieces...)
	checkReplace(t, row, "a", "\u20ac", strings.Repeat("\u20ac,", many))
	signs := slices.Repeat([]string{"a", ","}, many)
	checkSplit(t, row, "", signs...)
	checkAround(t, row, ",,", "", "")
	checkAround(t, row+",", ",,", row[:len(row)-1], "")
	checkAround(t, "b"+row, "b", "", row)
	// A part that almost stands everywhere.
	same := strings.Repeat("a", many)
	checkAround(t, same, same[:many/2]+"b", "", "")
	checkAround(t, same+"b", same[:many/2]+"b", same[:many/2], "")
	checkSplit(t, same, same[:many/2], "", "", "")
}

// What Split answers is a list of its own.
func TestP153SplitIsItsOwn(t *testing.T) {
	for _, part := range []string{",", "", "x", "a,b"} {
		const s = "a,b\u00e9,,c"
		one, two := runes.Split(s, part), runes.Split(s, part)
		want := slices.Clone(one)
		room := one[:cap(one)]
		for i := range room {
			room[i] = "changed"
		}
		if !slices.Equal(two, want) || !slices.Equal(runes.Split(s, part), want) {
			t.Errorf("Split(%q, %q) shares its list", s, part)
		}
	}
}
