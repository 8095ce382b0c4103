package lex_test

import (
	"math/rand"
	"slices"
	"strings"
	"testing"

	"casuist/lex"
)

func TestP161Kinds(t *testing.T) {
	for i, k := range []lex.Kind{lex.End, lex.Word, lex.Number, lex.String, lex.Temporal, lex.Symbol} {
		if int(k) != i {
			t.Errorf("the kind at %d is %d", i, k)
		}
	}
}

func TestP161Nothing(t *testing.T) {
	for _, s := range []string{
		"", " ", "\t", "\n", "\r", " \t\r\n ", "\r\n\r\n", strings.Repeat(" ", 5000),
		"//", "// a", "//\n", "// a\n", "// a\r", "// a\r\n", "///", "////", "//*", "//*/", "// \" @ # ! \\", "// a\n// b", "// a\n\n// b\n", "//\n//\n//",
		"/**/", "/***/", "/****/", "/* */", "/* a */", "/* * */", "/* / */", "/* /* */", "/*/*/", "/*//*/", "/*/**/", "/* \n\r\n */", "/*\n*/", "/* \" */", "/* \" @ # ! \\ */", "/* // */", "/* // \n */", "/*//\n*/",
		"// /*", "// /* \n", "// */", "// /* */", "//**/", "/**//**/", "/**///", "/**/ /**/", " /* a */ // b\n /* c */ ", "// a\n/* b */// c", "/* a *//* b */", "/**/// /*\n/**/",
		"// \u00e9\u20ac\U0001f600", "/* \u00e9\u20ac\U0001f600 */", "// \u2028 a", "// \u0085 a", "// \x00\x0b\x0c", "/* \x00 */", "/* \ufffd */",
	} {
		checkTokens(t, s)
		checkModel(t, s)
	}
}

func TestP161RemarksUpToALinesEnd(t *testing.T) {
	for _, x := range []struct {
		s    string
		want []lex.Token
	}{
		{"a // b", []lex.Token{word(0, "a")}},
		{"a // b\nc", []lex.Token{word(0, "a"), word(7, "c")}},
		{"a//b\nc", []lex.Token{word(0, "a"), word(5, "c")}},
		{"//\na", []lex.Token{word(3, "a")}},
		{"// b\na", []lex.Token{word(5, "a")}},
		{"// b\n\n a", []lex.Token{word(7, "a")}},
		{"a // b // c\nd", []lex.Token{word(0, "a"), word(12, "d")}},
		{"a // b\n// c\nd", []lex.Token{word(0, "a"), word(12, "d")}},
		// A return alone ends no line, nor does what else ends one elsewhere.
		{"a // b\rc", []lex.Token{word(0, "a")}},
		{"a // b\rc\nd", []lex.Token{word(0, "a"), word(9, "d")}},
		{"a // b\r\nc", []lex.Token{word(0, "a"), word(8, "c")}},
		{"a // b\u2028c\u0085d\x0be\x0cf\ng", []lex.Token{word(0, "a"), word(18, "g")}},
		// What would begin or end the other sort of remark is nothing there.
		{"a // /*\nb */ c", []lex.Token{word(0, "a"), word(8, "b"), symbol(10, "*"), symbol(11, "/"), word(13, "c")}},
		{"a // /* */\nb", []lex.Token{word(0, "a"), word(11, "b")}},
		{"a //* b\nc", []lex.Token{word(0, "a"), word(8, "c")}},
		{"a // \"\nb", []lex.Token{word(0, "a"), word(7, "b")}},
		{"1//2\n3", []lex.Token{number(0, "1"), number(5, "3")}},
		{"a///b\nc", []lex.Token{word(0, "a"), word(6, "c")}},
		{"a*//b\nc", []lex.Token{word(0, "a"), symbol(1, "*"), word(6, "c")}},
		{"a/ /b", []lex.Token{word(0, "a"), symbol(1, "/"), symbol(3, "/"), word(4, "b")}},
		{"/\n/", []lex.Token{symbol(0, "/"), symbol(2, "/")}},
	} {
		checkTokens(t, x.s, x.want...)
		checkModel(t, x.s)
	}
}

func TestP161RemarksThatAreClosed(t *testing.T) {
	for _, x := range []struct {
		s    string
		want []lex.Token
	}{
		{"/* a */b", []lex.Token{word(7, "b")}},
		{"a/* b */", []lex.Token{word(0, "a")}},
		{"a/* b */c", []lex.Token{word(0, "a"), word(8, "c")}},
		{"a /* b */ /* c */ d", []lex.Token{word(0, "a"), word(18, "d")}},
		{"a/* b *//* c */d", []lex.Token{word(0, "a"), word(15, "d")}},
		{"a/* b */// c\nd", []lex.Token{word(0, "a"), word(13, "d")}},
		{"a/*\n\r\n*/b", []lex.Token{word(0, "a"), word(8, "b")}},
		{"a/* // */b", []lex.Token{word(0, "a"), word(9, "b")}},
		{"a/* // \n */b", []lex.Token{word(0, "a"), word(11, "b")}},
		// The next end is the end, however many begin within.
		{"a/* /* */b", []lex.Token{word(0, "a"), word(9, "b")}},
		{"a/* /* */ b */", []lex.Token{word(0, "a"), word(10, "b"), symbol(12, "*"), symbol(13, "/")}},
		{"/**//", []lex.Token{symbol(4, "/")}},
		{"/**/a*/", []lex.Token{word(4, "a"), symbol(5, "*"), symbol(6, "/")}},
		{"/***/a", []lex.Token{word(5, "a")}},
		{"/****/a", []lex.Token{word(6, "a")}},
		{"/*/*/a", []lex.Token{word(5, "a")}},
		{"/*/a*/b", []lex.Token{word(6, "b")}},
		{"/*\"*/\"a\"", []lex.Token{quoted(5, "a")}},
		{"*/", []lex.Token{symbol(0, "*"), symbol(1, "/")}},
		{"**/", []lex.Token{symbol(0, "**"), symbol(2, "/")}},
		{"a*/**/b", []lex.Token{word(0, "a"), symbol(1, "*"), word(6, "b")}},
		{"//**/a\nb", []lex.Token{word(7, "b")}},
		{"/ * a * /", []lex.Token{symbol(0, "/"), symbol(2, "*"), word(4, "a"), symbol(6, "*"), symbol(8, "/")}},
		{"/* \u00e9 */a/* \u20ac */b/*\U0001f600*/c", []lex.Token{word(8, "a"), word(18, "b"), word(27, "c")}},
	} {
		checkTokens(t, x.s, x.want...)
		checkModel(t, x.s)
	}
}

func TestP161RemarksThatAreNotClosed(t *testing.T) {
	for _, s := range []string{
		"/*", "/* ", "/* a", "/*/", "/*/ ", "/*//", "/**", "/***", "/* *", "/* * /", "/*\n", "/* // \n", "/* /", "/* /*", "/*/*", "/* \"*\" /", "/**//*", "/**//*/", "/* */ /*", "/* */ a /* b",
		"a/*", "a /* b", "a /*/ b", "1/*", "\"a\"/*", "+/*", "a // b\n/* c", "a/*b//*", "//\n/*", " /* \u00e9 ", "/*\u20ac",
	} {
		checkNone(t, s)
		checkModel(t, s)
	}
}

// What stands between two tokens that would be one parts them.
func TestP161Apart(t *testing.T) {
	pairs := []struct {
		one, two string
		kinds    [2]lex.Kind
	}{
		{"a", "b", [2]lex.Kind{lex.Word, lex.Word}}, {"a", "1", [2]lex.Kind{lex.Word, lex.Number}}, {"1", "2", [2]lex.Kind{lex.Number, lex.Number}},
		{"1", ".2", [2]lex.Kind{lex.Number, lex.Number}}, {"1.5", "5", [2]lex.Kind{lex.Number, lex.Number}}, {"1", "E5", [2]lex.Kind{lex.Number, lex.Word}}, {"1E5", "5", [2]lex.Kind{lex.Number, lex.Number}},
		{".", ".", [2]lex.Kind{lex.Symbol, lex.Symbol}}, {".", "5", [2]lex.Kind{lex.Symbol, lex.Number}}, {"*", "*", [2]lex.Kind{lex.Symbol, lex.Symbol}}, {"<", "=", [2]lex.Kind{lex.Symbol, lex.Symbol}}, {">", "=", [2]lex.Kind{lex.Symbol, lex.Symbol}}, {"-", ">", [2]lex.Kind{lex.Symbol, lex.Symbol}}, {"*", "/", [2]lex.Kind{lex.Symbol, lex.Symbol}},
		{"\u00e9", "a", [2]lex.Kind{lex.Word, lex.Word}}, {"a", "\U0001f600", [2]lex.Kind{lex.Word, lex.Word}},
	}
	for _, p := range pairs {
		for _, between := range []string{" ", "\t", "\n", "\r", "  ", "\r\n", "/**/", "/* a */", " /**/", "/**/ ", "//\n", "// a\n", " // \u20ac\n ", "/*//*/", "/*\n*/"} {
			s := p.one + between + p.two
			checkTokens(t, s, lex.Token{Kind: p.kinds[0], Text: p.one}, lex.Token{Kind: p.kinds[1], Text: p.two, At: len(p.one) + len(between)})
			checkModel(t, s)
		}
	}
	// What parts nothing else parts no token's own signs either.
	for _, s := range []string{"! =", "!/**/=", "@ \"a\"", "@\t\"a\"", "@\n\"a\"", "@/**/\"a\"", "@//\n\"a\""} {
		checkNone(t, s)
		checkModel(t, s)
	}
	checkTokens(t, "1 E 5", number(0, "1"), word(2, "E"), number(4, "5"))
	checkTokens(t, "1. 5", number(0, "1"), symbol(1, "."), number(3, "5"))
	checkTokens(t, "1E/**/5", number(0, "1"), word(1, "E"), number(6, "5"))
	checkTokens(t, "1E+ 5", number(0, "1"), word(1, "E"), symbol(2, "+"), number(4, "5"))
}

func TestP161Spaces(t *testing.T) {
	for r := rune(0); r < 128; r++ {
		s := "(" + string(r) + ")"
		switch {
		case r == ' ' || r == '\t' || r == '\n' || r == '\r':
			checkTokens(t, s, symbol(0, "("), symbol(2, ")"))
		case r < ' ' || r == 127:
			checkNone(t, s)
			checkNone(t, string(r))
			checkNone(t, "a"+string(r))
			checkNone(t, string(r)+"a")
		}
		checkModel(t, s)
	}
	// What is a space elsewhere is a letter here.
	for _, r := range []string{"\u0085", "\u00a0", "\u1680", "\u2003", "\u2028", "\u2029", "\u202f", "\u3000", "\ufeff"} {
		checkTokens(t, "("+r+")", symbol(0, "("), word(1, r), symbol(1+len(r), ")"))
		checkTokens(t, r+"a", word(0, r+"a"))
	}
}

func TestP161NotUTF8(t *testing.T) {
	for _, bad := range []string{"\x80", "\xbf", "\xc0\x80", "\xc1\xbf", "\xc3", "\xe0\x9f\xbf", "\xe2\x82", "\xed\xa0\x80", "\xed\xbf\xbf", "\xf0\x8f\xbf\xbf", "\xf0\x9f\x98", "\xf4\x90\x80\x80", "\xf5\x80\x80\x80", "\xfe", "\xff"} {
		for _, around := range [][2]string{
			{"", ""}, {"", "a"}, {"", " a"}, {"a", ""}, {"a ", ""}, {"a", "b"}, {"a ", " b"}, {"1", ""}, {"(", ")"},
			{"\"", "\""}, {"\"a", "b\""}, {"\"\\", "\""}, {"\"\\u00", "41\""}, {"\"a\"", ""}, {"@\"", "\""}, {"@", "\"a\""},
			{"// ", ""}, {"//", "\n"}, {"a // ", "\nb"}, {"/*", "*/"}, {"a /* ", " */ b"}, {"/* a */", ""}, {"// a\n", ""},
			{"\u00e9", ""}, {"", "\u20ac"}, {strings.Repeat("a", 5000), ""}, {strings.Repeat(" ", 5000), strings.Repeat(" ", 5000)},
		} {
			checkNone(t, around[0]+bad+around[1])
			checkModel(t, around[0]+bad+around[1])
		}
	}
	// The rune that stands for such bytes is a letter where it is told itself.
	checkTokens(t, "\ufffd", word(0, "\ufffd"))
	checkTokens(t, "a\ufffd1 \"\ufffd\" // \ufffd", word(0, "a\ufffd1"), quoted(6, "\ufffd"))
}

func TestP161Places(t *testing.T) {
	for _, r := range []string{"a", "\u00e9", "\u20ac", "\U0001f600", "\u0080", "\u07ff", "\u0800", "\uffff", "\U00010000", "\U0010ffff", "e\u0301"} {
		n := len(r)
		checkTokens(t, r+" b", word(0, r), word(n+1, "b"))
		checkTokens(t, r+"+"+r, word(0, r), symbol(n, "+"), word(n+1, r))
		checkTokens(t, "\""+r+"\"b", quoted(0, r), word(n+2, "b"))
		checkTokens(t, "@\""+r+"\"1", temporal(0, r), number(n+3, "1"))
		checkTokens(t, "//"+r+"\nb", word(n+3, "b"))
		checkTokens(t, "/*"+r+"*/b", word(n+4, "b"))
		checkTokens(t, "(1)"+r+"(1)"+r, symbol(0, "("), number(1, "1"), symbol(2, ")"), word(3, r), symbol(n+3, "("), number(n+4, "1"), symbol(n+5, ")"), word(n+6, r))
	}
	// A string's place is its quote's, also where it stands for fewer bytes or more; a temporal's is its @'s.
	checkTokens(t, "\"\\u0041\"b", quoted(0, "A"), word(8, "b"))
	checkTokens(t, "\"\\U01F600\"b", quoted(0, "\U0001f600"), word(10, "b"))
	checkTokens(t, "\"\\n\\\"\"b", quoted(0, "\n\""), word(6, "b"))
	checkTokens(t, " @\"P1D\" b", temporal(1, "P1D"), word(8, "b"))
	checkTokens(t, "@\"\\u0041\"b", temporal(0, "A"), word(9, "b"))
	// The End is behind all that is skipped.
	checkTokens(t, "a  ", word(0, "a"))
	checkTokens(t, "a // \u20ac", word(0, "a"))
	checkTokens(t, "a /* \u20ac */\n", word(0, "a"))
}

// One place at which no token begins is enough.
func TestP161AllOrNothing(t *testing.T) {
	for _, bad := range []string{"#", "!", "@", "@x", "\"", "\"a", "\"\\x\"", "\"\n\"", "\\", "/*", "\x00", ";", "&"} {
		for _, good := range []string{"a", "1", "a b c", "\"a\"", "@\"a\"", "(", "a // b\n"} {
			for _, s := range []string{bad, bad + "\n" + good, good + " " + bad, good + " " + bad + "\n" + good} {
				checkNone(t, s)
				checkModel(t, s)
			}
		}
	}
}

func TestP161EachShortRemark(t *testing.T) {
	eachOf(signs("/*\na\""), 7, func(s string) { checkModel(t, s) })
	eachOf(signs("/*\r\n @"), 6, func(s string) { checkModel(t, s) })
}

func TestP161ByTheWords(t *testing.T) {
	bits := append(signs("ab1. \n\r\t\"+-*/<>=!E@'(#"), "//", "/*", "*/", "/**/", "// a\n", "\"a\"", "@\"b\"", "\\n", "\u00e9", "\u20ac", "\U0001f600", "\xff")
	r := rand.New(rand.NewSource(161))
	there := 0
	for range 60000 {
		s := someOf(r, bits, 14)
		checkModel(t, s)
		if ts, ok := lex.Tokens(s); ok && len(ts) > 3 {
			there++
		}
	}
	if there < 5000 {
		t.Error("the sources tell little:", there)
	}
}

// What Tokens answers is a list of its own.
func TestP161TokensAreTheirOwn(t *testing.T) {
	for _, s := range []string{"", "a b", "a + \"b\" @\"c\" 1.5 ** x // d", strings.Repeat("a ", 100)} {
		one, _ := lex.Tokens(s)
		two, _ := lex.Tokens(s)
		want := slices.Clone(one)
		room := one[:cap(one)]
		for i := range room {
			room[i] = word(-1, "changed")
		}
		three, _ := lex.Tokens(s)
		if !slices.Equal(two, want) || !slices.Equal(three, want) {
			t.Errorf("Tokens(%q) shares its list", s)
		}
	}
}
