package lex_test

import (
	"math/rand"
	"strings"
	"testing"
	"unicode"
	"unicode/utf8"

	"casuist/lex"
	"casuist/numeral"
)

// row is a source and its tokens, the End left out.
type row struct {
	s    string
	want []lex.Token
}

func checkRows(t *testing.T, rows []row) {
	t.Helper()
	for _, x := range rows {
		checkTokens(t, x.s, x.want...)
		checkModel(t, x.s)
	}
}

func TestP162Examples(t *testing.T) {
	checkRows(t, []row{
		{"a1 +.5E3..", []lex.Token{word(0, "a1"), symbol(3, "+"), number(4, ".5E3"), symbol(8, "..")}},
		{"1..2", []lex.Token{number(0, "1"), symbol(1, ".."), number(3, "2")}},
		{"12E1234567", []lex.Token{number(0, "12"), word(2, "E1234567")}},
		{"@\"P1D\"", []lex.Token{temporal(0, "P1D")}},
		{"\"\\u0041\"", []lex.Token{quoted(0, "A")}},
		{"order date + @\"P1M\"", []lex.Token{word(0, "order"), word(6, "date"), symbol(11, "+"), temporal(13, "P1M")}},
		{"items[quantity > 2].name", []lex.Token{word(0, "items"), symbol(5, "["), word(6, "quantity"), symbol(15, ">"), number(17, "2"), symbol(18, "]"), symbol(19, "."), word(20, "name")}},
		{"string join(items.name, \"+\")", []lex.Token{word(0, "string"), word(7, "join"), symbol(11, "("), word(12, "items"), symbol(17, "."), word(18, "name"), symbol(22, ","), quoted(24, "+"), symbol(27, ")")}},
		{"{a: 1.50, \"b\": [x'-y]}", []lex.Token{symbol(0, "{"), word(1, "a"), symbol(2, ":"), number(4, "1.50"), symbol(8, ","), quoted(10, "b"), symbol(13, ":"), symbol(15, "["), word(16, "x"), symbol(17, "'"), symbol(18, "-"), word(19, "y"), symbol(20, "]"), symbol(21, "}")}},
		{"if null then true else false", []lex.Token{word(0, "if"), word(3, "null"), word(8, "then"), word(13, "true"), word(18, "else"), word(23, "false")}},
	})
	checkNone(t, "\"a")
}

func TestP162Words(t *testing.T) {
	for _, w := range []string{
		"a", "z", "A", "Z", "_", "abc", "ABC", "a1", "a0", "a9", "a1b2", "_1", "__", "a_b", "_0_", "E", "E5", "e5", "E1234567", "x0x", "null", "n", "u0041", "fooBar", "a123456789",
		"\u0080", "\u00a0", "\u00e9", "\u00c9t\u00e9", "\u00d7", "\u03b1\u03b2", "\u0416", "\u4e2d\u6587", "\u20ac", "\u201ca\u201d", "\U0001f600", "\U0010ffff", "e\u0301", "\ufffd", "\ufeffa", "a\u00e9", "\u00e9a", "\u00e91", "a\u20ac1\U0001f600_",
		// Digits of other scripts are letters, and so may begin a word.
		"\u0661", "\uff11", "a\u0661", "\u06611", "\u0967a",
		strings.Repeat("a", 5000), "a" + strings.Repeat("1", 5000), strings.Repeat("\u20ac", 5000),
	} {
		checkTokens(t, w, word(0, w))
		checkTokens(t, "("+w+")", symbol(0, "("), word(1, w), symbol(1+len(w), ")"))
		checkTokens(t, w+" "+w, word(0, w), word(len(w)+1, w))
		checkModel(t, w)
	}
	checkRows(t, []row{
		{"1a", []lex.Token{number(0, "1"), word(1, "a")}},
		{"1_", []lex.Token{number(0, "1"), word(1, "_")}},
		{"1\u00e9", []lex.Token{number(0, "1"), word(1, "\u00e9")}},
		{"12ab34", []lex.Token{number(0, "12"), word(2, "ab34")}},
		{"1_000", []lex.Token{number(0, "1"), word(1, "_000")}},
		{"0x10", []lex.Token{number(0, "0"), word(1, "x10")}},
		{"a.b", []lex.Token{word(0, "a"), symbol(1, "."), word(2, "b")}},
		{"a-b", []lex.Token{word(0, "a"), symbol(1, "-"), word(2, "b")}},
		{"a'b", []lex.Token{word(0, "a"), symbol(1, "'"), word(2, "b")}},
		{"a\"b\"", []lex.Token{word(0, "a"), quoted(1, "b")}},
		{"a@\"b\"", []lex.Token{word(0, "a"), temporal(1, "b")}},
		{"a1.5", []lex.Token{word(0, "a1"), number(2, ".5")}},
		{"a.5", []lex.Token{word(0, "a"), number(1, ".5")}},
		{"a..b", []lex.Token{word(0, "a"), symbol(1, ".."), word(3, "b")}},
		{"\u06611 1\u0661", []lex.Token{word(0, "\u06611"), number(4, "1"), word(5, "\u0661")}},
	})
}

func TestP162Numbers(t *testing.T) {
	long := strings.Repeat("1", 5000)
	for _, n := range []string{
		"0", "9", "1234567890", "007", "00", long, "1.5", "0.0", "12.340", "00.00", ".5", ".0", ".123", "1." + long, "." + long, long + "." + long,
		"1E5", "1E+5", "1E-5", "1E0", "1E+0", "1E-0", "1E123456", "1E+123456", "1E-123456", "1E000000", "1E999999", "1E05", "1.5E3", ".5E3", ".5E+3", ".5E-999999", "1.50E12", "0E0", "12E12", "12E123", "12E1234", "12E12345", long + "E1", "." + long + "E-123456",
	} {
		checkTokens(t, n, number(0, n))
		checkTokens(t, "a "+n+" b", word(0, "a"), number(2, n), word(len(n)+3, "b"))
		checkTokens(t, "-"+n+")", symbol(0, "-"), number(1, n), symbol(1+len(n), ")"))
		checkTokens(t, n+"a", number(0, n), word(len(n), "a"))
		checkTokens(t, n+"..", number(0, n), symbol(len(n), ".."))
		checkTokens(t, n+"+", number(0, n), symbol(len(n), "+"))
		checkModel(t, n)
	}
}

func TestP162Points(t *testing.T) {
	checkRows(t, []row{
		{".", []lex.Token{symbol(0, ".")}},
		{"1.", []lex.Token{number(0, "1"), symbol(1, ".")}},
		{"1.a", []lex.Token{number(0, "1"), symbol(1, "."), word(2, "a")}},
		{"1.E5", []lex.Token{number(0, "1"), symbol(1, "."), word(2, "E5")}},
		{"1.+5", []lex.Token{number(0, "1"), symbol(1, "."), symbol(2, "+"), number(3, "5")}},
		{"1.\u0661", []lex.Token{number(0, "1"), symbol(1, "."), word(2, "\u0661")}},
		{".E5", []lex.Token{symbol(0, "."), word(1, "E5")}},
		{".a", []lex.Token{symbol(0, "."), word(1, "a")}},
		{"1.2.3", []lex.Token{number(0, "1.2"), number(3, ".3")}},
		{".1.2", []lex.Token{number(0, ".1"), number(2, ".2")}},
		{"1.2.", []lex.Token{number(0, "1.2"), symbol(3, ".")}},
		{".1.", []lex.Token{number(0, ".1"), symbol(2, ".")}},
		{"1.2.a", []lex.Token{number(0, "1.2"), symbol(3, "."), word(4, "a")}},
		{"1..", []lex.Token{number(0, "1"), symbol(1, "..")}},
		{"..1", []lex.Token{symbol(0, ".."), number(2, "1")}},
		{"1..2", []lex.Token{number(0, "1"), symbol(1, ".."), number(3, "2")}},
		{"1...2", []lex.Token{number(0, "1"), symbol(1, ".."), number(3, ".2")}},
		{"1....2", []lex.Token{number(0, "1"), symbol(1, ".."), symbol(3, ".."), number(5, "2")}},
		{"1.5..2.5", []lex.Token{number(0, "1.5"), symbol(3, ".."), number(5, "2.5")}},
		{"1.5...5", []lex.Token{number(0, "1.5"), symbol(3, ".."), number(5, ".5")}},
		{"...5", []lex.Token{symbol(0, ".."), number(2, ".5")}},
		{"1,5", []lex.Token{number(0, "1"), symbol(1, ","), number(2, "5")}},
		{"1'5", []lex.Token{number(0, "1"), symbol(1, "'"), number(2, "5")}},
		{"1:5", []lex.Token{number(0, "1"), symbol(1, ":"), number(2, "5")}},
	})
}

func TestP162Powers(t *testing.T) {
	checkRows(t, []row{
		{"1E", []lex.Token{number(0, "1"), word(1, "E")}},
		{"1E+", []lex.Token{number(0, "1"), word(1, "E"), symbol(2, "+")}},
		{"1E-", []lex.Token{number(0, "1"), word(1, "E"), symbol(2, "-")}},
		{"1Ea", []lex.Token{number(0, "1"), word(1, "Ea")}},
		{"1EE5", []lex.Token{number(0, "1"), word(1, "EE5")}},
		{"1E+a", []lex.Token{number(0, "1"), word(1, "E"), symbol(2, "+"), word(3, "a")}},
		{"1E++5", []lex.Token{number(0, "1"), word(1, "E"), symbol(2, "+"), symbol(3, "+"), number(4, "5")}},
		{"1E+-5", []lex.Token{number(0, "1"), word(1, "E"), symbol(2, "+"), symbol(3, "-"), number(4, "5")}},
		{"1E-+5", []lex.Token{number(0, "1"), word(1, "E"), symbol(2, "-"), symbol(3, "+"), number(4, "5")}},
		{"1E--5", []lex.Token{number(0, "1"), word(1, "E"), symbol(2, "-"), symbol(3, "-"), number(4, "5")}},
		{"1E->5", []lex.Token{number(0, "1"), word(1, "E"), symbol(2, "->"), number(4, "5")}},
		{"1E*5", []lex.Token{number(0, "1"), word(1, "E"), symbol(2, "*"), number(3, "5")}},
		{"1E.5", []lex.Token{number(0, "1"), word(1, "E"), number(2, ".5")}},
		{"1E+.5", []lex.Token{number(0, "1"), word(1, "E"), symbol(2, "+"), number(3, ".5")}},
		{"1E5.5", []lex.Token{number(0, "1E5"), number(3, ".5")}},
		{"1E5.", []lex.Token{number(0, "1E5"), symbol(3, ".")}},
		{"1E5..6", []lex.Token{number(0, "1E5"), symbol(3, ".."), number(5, "6")}},
		{"1E5E5", []lex.Token{number(0, "1E5"), word(3, "E5")}},
		{"1E5a", []lex.Token{number(0, "1E5"), word(3, "a")}},
		{"1E5+5", []lex.Token{number(0, "1E5"), symbol(3, "+"), number(4, "5")}},
		{"1E5\u0661", []lex.Token{number(0, "1E5"), word(3, "\u0661")}},
		{"1E\u0661", []lex.Token{number(0, "1"), word(1, "E\u0661")}},
		{"1E1234567", []lex.Token{number(0, "1"), word(1, "E1234567")}},
		{"1E0000000", []lex.Token{number(0, "1"), word(1, "E0000000")}},
		{"1E0000001", []lex.Token{number(0, "1"), word(1, "E0000001")}},
		{"1E+1234567", []lex.Token{number(0, "1"), word(1, "E"), symbol(2, "+"), number(3, "1234567")}},
		{"1E-1234567", []lex.Token{number(0, "1"), word(1, "E"), symbol(2, "-"), number(3, "1234567")}},
		{"1.5E1234567", []lex.Token{number(0, "1.5"), word(3, "E1234567")}},
		{".5E-1234567", []lex.Token{number(0, ".5"), word(2, "E"), symbol(3, "-"), number(4, "1234567")}},
		{"1E12345678a", []lex.Token{number(0, "1"), word(1, "E12345678a")}},
		{"1E123456a", []lex.Token{number(0, "1E123456"), word(8, "a")}},
		{"1E123456.7", []lex.Token{number(0, "1E123456"), number(8, ".7")}},
		{"1e5", []lex.Token{number(0, "1"), word(1, "e5")}},
		{"1.5e5", []lex.Token{number(0, "1.5"), word(3, "e5")}},
		{"1e+5", []lex.Token{number(0, "1"), word(1, "e"), symbol(2, "+"), number(3, "5")}},
		{"E5", []lex.Token{word(0, "E5")}},
		{"E+5", []lex.Token{word(0, "E"), symbol(1, "+"), number(2, "5")}},
		{"aE5", []lex.Token{word(0, "aE5")}},
		{"1\u04155", []lex.Token{number(0, "1"), word(1, "\u04155")}},
		{"1E5E+6", []lex.Token{number(0, "1E5"), word(3, "E"), symbol(4, "+"), number(5, "6")}},
		{"1E+1E+1", []lex.Token{number(0, "1E+1"), word(4, "E"), symbol(5, "+"), number(6, "1")}},
	})
}

// What is told as a number has a number's shape, by the layer that has it.
func TestP162NumbersHaveTheShape(t *testing.T) {
	numbers := 0
	eachOf(signs("01.E+-a"), 6, func(s string) {
		checkModel(t, s)
		ts, ok := lex.Tokens(s)
		if !ok {
			t.Fatalf("Tokens(%q) is false", s)
		}
		for _, x := range ts {
			if x.Kind != lex.Number {
				continue
			}
			numbers++
			if _, ok := numeral.Read(x.Text); !ok || !numeral.Shape(x.Text) {
				t.Errorf("of %q comes the number %q", s, x.Text)
			}
		}
	})
	if numbers < 10000 {
		t.Error("the sources tell little:", numbers)
	}
	for digits := range 20 {
		for _, ahead := range []string{"1", "1.5", ".5", "1.", "", "a"} {
			for _, sign := range []string{"", "+", "-", "+-"} {
				for _, behind := range []string{"", " ", "a", ".", "..", ".5", "E1", "+", "\u00e9"} {
					checkModel(t, ahead+"E"+sign+"123456789012345678901"[:digits]+behind)
				}
			}
		}
	}
}

func TestP162Strings(t *testing.T) {
	for _, s := range []string{
		"", "a", "a b", " ", "  a  ", "\t", "'", "''", "@", "//", "/* */", "// a", "/*", "*/", "1.5", "+", "!", "#", "()[]{}", "\x00", "\x01\x1f", "\x0b\x0c", "\x7f", "\u0080", "\u0085", "\u00a0", "\u2028", "\u2029",
		"\u00e9", "\u20ac", "\U0001f600", "\U0010ffff", "\ufffd", "\ufeff", "e\u0301", "a\u00e9\u20ac\U0001f600", "n", "u0041", strings.Repeat("a", 5000), strings.Repeat("\u20ac", 5000),
	} {
		q := "\"" + s + "\""
		checkTokens(t, q, quoted(0, s))
		checkTokens(t, "@"+q, temporal(0, s))
		checkTokens(t, q+q, quoted(0, s), quoted(len(q), s))
		checkTokens(t, "@"+q+"@"+q, temporal(0, s), temporal(len(q)+1, s))
		checkTokens(t, "a"+q+"1"+q+"+", word(0, "a"), quoted(1, s), number(len(q)+1, "1"), quoted(len(q)+2, s), symbol(2*len(q)+2, "+"))
		checkModel(t, q)
	}
	checkRows(t, []row{
		{"\"\"\"\"", []lex.Token{quoted(0, ""), quoted(2, "")}},
		{"\"a\" \"b\"", []lex.Token{quoted(0, "a"), quoted(4, "b")}},
		{"\"a\"\n\"b\"", []lex.Token{quoted(0, "a"), quoted(4, "b")}},
		{"\"a\"b\"c\"", []lex.Token{quoted(0, "a"), word(3, "b"), quoted(4, "c")}},
		{"'a'", []lex.Token{symbol(0, "'"), word(1, "a"), symbol(2, "'")}},
		{"u\"a\"", []lex.Token{word(0, "u"), quoted(1, "a")}},
	})
}

func TestP162NoStrings(t *testing.T) {
	for _, s := range []string{
		"\"", "\"a", "\"a b", "\" ", "\"\"\"", "\"a\"\"", "\"a\" \"", "a\"", "\"'", "\"\u20ac", "\"// \"\"", "\"/*\"\"",
		"\"\n\"", "\"\r\"", "\"\r\n\"", "\"a\nb\"", "\"a\rb\"", "\"a\n", "\"\n", "\"a\r\n\"", "\"a\n\"b\"", "\"\"\"\n\"",
		"\u201ca\u201d\"", "\"a' + 'b",
	} {
		checkNone(t, s)
		checkModel(t, s)
		checkNone(t, "@"+s)
		checkModel(t, "@"+s)
	}
}

func TestP162Temporals(t *testing.T) {
	checkRows(t, []row{
		{"@\"\"", []lex.Token{temporal(0, "")}},
		{"@\"2024-02-29\"", []lex.Token{temporal(0, "2024-02-29")}},
		{"@\"no day\"", []lex.Token{temporal(0, "no day")}},
		{"a @\"b\" \"c\"", []lex.Token{word(0, "a"), temporal(2, "b"), quoted(7, "c")}},
		{"@\"\\\"\"", []lex.Token{temporal(0, "\"")}},
		{"@\"@\"", []lex.Token{temporal(0, "@")}},
		{"-@\"P1D\"", []lex.Token{symbol(0, "-"), temporal(1, "P1D")}},
		{"1@\"P1D\"2", []lex.Token{number(0, "1"), temporal(1, "P1D"), number(7, "2")}},
	})
	for _, s := range []string{"@", "@ ", "@ \"a\"", "@\t\"a\"", "@\n\"a\"", "@\r\"a\"", "@//\n\"a\"", "@/**/\"a\"", "@@\"a\"", "@@", "@a", "@1", "@'a'", "@(\"a\")", "@\"", "@\"a", "@\"a\n\"", "@\"\\x\"", "@\"\\ud800\"", "a@b", "a@", "\"a\"@", "@\u00e9", "@\u201ca\u201d", "@+\"a\"", "@u\"a\""} {
		checkNone(t, s)
		checkModel(t, s)
	}
}

// pairs and singles are the chapter's symbols.
const (
	pairs   = ".. ** <= >= != ->"
	singles = "( ) [ ] { } , : . + - * / = < > '"
)

func TestP162Symbols(t *testing.T) {
	all := append(strings.Fields(pairs), strings.Fields(singles)...)
	for _, y := range all {
		n := len(y)
		checkTokens(t, y, symbol(0, y))
		checkTokens(t, " "+y+" ", symbol(1, y))
		checkTokens(t, "a"+y+"b", word(0, "a"), symbol(1, y), word(n+1, "b"))
		checkTokens(t, y+" "+y, symbol(0, y), symbol(n+1, y))
		checkTokens(t, "\u20ac"+y+"\"\"", word(0, "\u20ac"), symbol(3, y), quoted(n+3, ""))
	}
	checkRows(t, []row{
		{"...", []lex.Token{symbol(0, ".."), symbol(2, ".")}},
		{"....", []lex.Token{symbol(0, ".."), symbol(2, "..")}},
		{"***", []lex.Token{symbol(0, "**"), symbol(2, "*")}},
		{"****", []lex.Token{symbol(0, "**"), symbol(2, "**")}},
		{"**=", []lex.Token{symbol(0, "**"), symbol(2, "=")}},
		{"<==", []lex.Token{symbol(0, "<="), symbol(2, "=")}},
		{"<<=", []lex.Token{symbol(0, "<"), symbol(1, "<=")}},
		{">==", []lex.Token{symbol(0, ">="), symbol(2, "=")}},
		{">>=", []lex.Token{symbol(0, ">"), symbol(1, ">=")}},
		{"!==", []lex.Token{symbol(0, "!="), symbol(2, "=")}},
		{"=!=", []lex.Token{symbol(0, "="), symbol(1, "!=")}},
		{"->>", []lex.Token{symbol(0, "->"), symbol(2, ">")}},
		{"->=", []lex.Token{symbol(0, "->"), symbol(2, "=")}},
		{"-->", []lex.Token{symbol(0, "-"), symbol(1, "->")}},
		{"-> =", []lex.Token{symbol(0, "->"), symbol(3, "=")}},
		{"<->", []lex.Token{symbol(0, "<"), symbol(1, "->")}},
		{"<>", []lex.Token{symbol(0, "<"), symbol(1, ">")}},
		{"><", []lex.Token{symbol(0, ">"), symbol(1, "<")}},
		{"=<", []lex.Token{symbol(0, "="), symbol(1, "<")}},
		{"=>", []lex.Token{symbol(0, "="), symbol(1, ">")}},
		{"==", []lex.Token{symbol(0, "="), symbol(1, "=")}},
		{"++", []lex.Token{symbol(0, "+"), symbol(1, "+")}},
		{"--", []lex.Token{symbol(0, "-"), symbol(1, "-")}},
		{"::", []lex.Token{symbol(0, ":"), symbol(1, ":")}},
		{":=", []lex.Token{symbol(0, ":"), symbol(1, "=")}},
		{"/=", []lex.Token{symbol(0, "/"), symbol(1, "=")}},
		{"<-", []lex.Token{symbol(0, "<"), symbol(1, "-")}},
		{">-", []lex.Token{symbol(0, ">"), symbol(1, "-")}},
		{"-.5", []lex.Token{symbol(0, "-"), number(1, ".5")}},
		{"->.5", []lex.Token{symbol(0, "->"), number(2, ".5")}},
		{"*.5", []lex.Token{symbol(0, "*"), number(1, ".5")}},
		{"<=-1", []lex.Token{symbol(0, "<="), symbol(2, "-"), number(3, "1")}},
		{"(((", []lex.Token{symbol(0, "("), symbol(1, "("), symbol(2, "(")}},
		{"]]", []lex.Token{symbol(0, "]"), symbol(1, "]")}},
		{"()[]{},:.+-*/=<>'", []lex.Token{symbol(0, "("), symbol(1, ")"), symbol(2, "["), symbol(3, "]"), symbol(4, "{"), symbol(5, "}"), symbol(6, ","), symbol(7, ":"), symbol(8, "."), symbol(9, "+"), symbol(10, "-"), symbol(11, "*"), symbol(12, "/"), symbol(13, "="), symbol(14, "<"), symbol(15, ">"), symbol(16, "'")}},
	})
}

func TestP162NoSymbols(t *testing.T) {
	for _, s := range []string{"!", "#", "$", "%", "&", ";", "?", "\\", "^", "`", "|", "~", "@", "\x00", "\x1b", "\x7f"} {
		for _, x := range []string{s, s + s, s + " ", " " + s, s + "a", "a" + s, "a " + s + " b", s + "\"", "(" + s + ")", s + "\n", "1" + s, s + "1", s + "// a", "/* a */" + s} {
			checkNone(t, x)
			checkModel(t, x)
		}
	}
	for _, s := range []string{"! =", "!!=", "!", "a!b", "&&", "||", "a ? b", "a % b", "a; b", "$a", "#a", "\\n", "`a`", "^2", "~1", "!a", "!(a)", "=!", "!>", "!<="} {
		checkNone(t, s)
		checkModel(t, s)
	}
}

func TestP162EachShortOne(t *testing.T) {
	eachOf(signs(".*<=>!-/"), 5, func(s string) { checkModel(t, s) })
	eachOf(signs("()[]{},:.+-*/=<>'!a1\"@# "), 3, func(s string) { checkModel(t, s) })
	var ascii []string
	for r := range 128 {
		ascii = append(ascii, string(rune(r)))
	}
	eachOf(ascii, 2, func(s string) {
		checkModel(t, s)
		checkModel(t, "a"+s+"b")
		checkModel(t, "1"+s+"1")
		checkModel(t, "\""+s+"\"")
	})
}

func TestP162EachRune(t *testing.T) {
	for r := rune(128); r <= unicode.MaxRune; r++ {
		if !utf8.ValidRune(r) {
			continue
		}
		s := string(r)
		ts, ok := lex.Tokens("1" + s + "1 \"" + s + "\"")
		if !ok || len(ts) != 4 || ts[0] != number(0, "1") || ts[1] != word(1, s+"1") || ts[2] != quoted(len(s)+3, s) {
			t.Fatalf("of %q come %s, %v", s, told(ts), ok)
		}
	}
}

// spelt is a token, and how a source may tell it.
type spelt struct {
	token lex.Token
	text  string
}

// speltOne is a token at random: a word, a number and a symbol are their own texts, of a string any spelling is chosen.
func speltOne(r *rand.Rand) spelt {
	words := []string{"a", "foo", "E5", "_", "x1", "null", "\u00e9t\u00e9", "\u20ac", "\U0001f6001", "\ufffd"}
	numbers := []string{"0", "12", "1.5", ".5", "1E5", "1.50E-12", ".5E+123456", "007"}
	symbols := append(strings.Fields(pairs), strings.Fields(singles)...)
	switch r.Intn(5) {
	case 0:
		w := words[r.Intn(len(words))]
		return spelt{word(0, w), w}
	case 1:
		n := numbers[r.Intn(len(numbers))]
		return spelt{number(0, n), n}
	case 2:
		y := symbols[r.Intn(len(symbols))]
		return spelt{symbol(0, y), y}
	case 3:
		text, all := someString(r)
		return spelt{quoted(0, text), all}
	}
	text, all := someString(r)
	return spelt{temporal(0, text), "@" + all}
}

// A source made of tokens that are parted has these, at the places where they were put.
func TestP162MadeOnes(t *testing.T) {
	blanks := []string{" ", "\n", "\t", "\r\n", "   ", "/**/", "/* a */", "/* // \" */", "//\n", "// \u20ac /* \n", " // a\r\n ", "/***/ ", "/*/*/"}
	r := rand.New(rand.NewSource(162))
	for range 20000 {
		var s strings.Builder
		var want []lex.Token
		for i := range r.Intn(12) {
			if i > 0 || r.Intn(2) == 0 {
				for range 1 + r.Intn(2) {
					s.WriteString(blanks[r.Intn(len(blanks))])
				}
			}
			one := speltOne(r)
			// A / at once ahead of a remark would begin another one.
			behind := ""
			if one.text == "/" || one.text == "*" {
				behind = " "
			}
			one.token.At = s.Len()
			want = append(want, one.token)
			s.WriteString(one.text + behind)
		}
		if r.Intn(3) == 0 {
			s.WriteString(" // the end")
		}
		checkTokens(t, s.String(), want...)
		checkModel(t, s.String())
	}
}
