package name_test

import (
	"math/rand"
	"slices"
	"strings"
	"testing"

	"casuist/lex"
	"casuist/name"
)

func TestP171Keyword(t *testing.T) {
	all := strings.Fields(keywords)
	if len(all) != 18 {
		t.Fatalf("the chapter has 18 keywords, not %d", len(all))
	}
	for _, w := range all {
		if !name.Keyword(w) {
			t.Errorf("%q is a keyword", w)
		}
	}
	for _, w := range []string{"", " ", "a", "i", "n", "o", "nil", "not", "is", "ins", "fo", "instances", "instance of", "date", "list", "range", "context", "number", "string", "boolean", "Any", "item", "partial", "null ", " null", "null\n", "NULL", "Null", "nulL", "if then", "andor", "in in", "\xff", "in\x00", "\u0131n", "if\u00e9", "1", "+", "("} {
		if name.Keyword(w) {
			t.Errorf("%q is no keyword", w)
		}
	}
	// One sign more, less, or another one, and two keywords in a row.
	for _, w := range all {
		for at := range len(w) + 1 {
			checkText(t, w[:at])
			checkText(t, w[at:])
			for b := range 256 {
				checkText(t, w[:at]+string([]byte{byte(b)})+w[at:])
				if at < len(w) {
					checkText(t, w[:at]+string([]byte{byte(b)})+w[at+1:])
				}
			}
		}
		checkText(t, strings.ToUpper(w))
		checkText(t, strings.ToUpper(w[:1])+w[1:])
		for _, v := range all {
			checkText(t, w+v)
			checkText(t, w+" "+v)
		}
	}
}

func TestP171Begins(t *testing.T) {
	for _, w := range []string{"a", "_", "E5", "date", "time", "not", "item", "If", "IN", "ands", "or1", "inn", "i", "\u00e9", "\u20ac1", "\U0001f600"} {
		if !name.Begins(word(w)) {
			t.Errorf("a name may begin with the word %q", w)
		}
	}
	for _, w := range strings.Fields(keywords) {
		if name.Begins(word(w)) {
			t.Errorf("no name begins with the keyword %q", w)
		}
	}
	for _, kind := range []lex.Kind{lex.End, lex.Number, lex.String, lex.Temporal, lex.Symbol, -1, lex.Symbol + 1} {
		for _, text := range []string{"", "a", "1", "+", "-", "*", "/", ".", "'", "(", "in", "1.5", "a b"} {
			if name.Begins(lex.Token{Kind: kind, Text: text}) {
				t.Errorf("no name begins with %q of the kind %d", text, kind)
			}
		}
	}
	if !name.Begins(lex.Token{Kind: lex.Word, Text: "a", At: 77}) || name.Begins(lex.Token{Kind: lex.Word, Text: "of", At: 77}) {
		t.Error("the place does not matter")
	}
}

func TestP171Join(t *testing.T) {
	text := lex.Token{Kind: lex.String, Text: "x y"}
	day := lex.Token{Kind: lex.Temporal, Text: "P1D"}
	end := lex.Token{At: 9}
	for _, x := range []struct {
		ts   []lex.Token
		want string
	}{
		{nil, ""}, {[]lex.Token{}, ""}, {[]lex.Token{end}, ""}, {[]lex.Token{end, end}, ""},
		{[]lex.Token{word("a")}, "a"}, {[]lex.Token{word("in")}, "in"}, {[]lex.Token{number("1.5")}, "1.5"}, {[]lex.Token{symbol("<=")}, "<="},
		{[]lex.Token{word("a"), word("b")}, "a b"}, {[]lex.Token{word("a"), number("1")}, "a 1"}, {[]lex.Token{number("1"), word("a")}, "1 a"}, {[]lex.Token{number("1"), number(".5")}, "1 .5"}, {[]lex.Token{number("1E5"), number("2.50")}, "1E5 2.50"},
		{[]lex.Token{word("a"), symbol("-"), word("b")}, "a-b"}, {[]lex.Token{word("a"), symbol("-")}, "a-"}, {[]lex.Token{symbol("-"), word("a")}, "-a"}, {[]lex.Token{word("a"), symbol("*"), symbol("*"), number("1")}, "a**1"},
		{[]lex.Token{word("a"), symbol("("), word("b"), symbol(")")}, "a(b)"}, {[]lex.Token{symbol("["), symbol("..")}, "[.."},
		{[]lex.Token{word("a"), text, word("b")}, "ax yb"}, {[]lex.Token{text, text}, "x yx y"}, {[]lex.Token{number("1"), text}, "1x y"}, {[]lex.Token{text, number("1")}, "x y1"}, {[]lex.Token{day, word("a"), word("b"), day}, "P1Da bP1D"},
		{[]lex.Token{word("a"), end, word("b")}, "ab"}, {[]lex.Token{word("a"), word("b"), end}, "a b"}, {[]lex.Token{end, word("a"), number("2")}, "a 2"},
		{[]lex.Token{word("date"), word("and"), word("time")}, "date and time"}, {[]lex.Token{word("a"), word("b"), word("c"), number("1"), symbol("+"), number("2"), number("3")}, "a b c 1+2 3"},
		{[]lex.Token{word(""), word("")}, " "}, {[]lex.Token{word("a b"), word("\xff")}, "a b \xff"}, {[]lex.Token{{Kind: -1, Text: "a"}, word("b"), {Kind: 77, Text: "c"}}, "abc"},
	} {
		if got := name.Join(x.ts); got != x.want {
			t.Errorf("Join(%s) = %q, not %q", told(x.ts), got, x.want)
		}
	}
	bits := []lex.Token{word("a"), word("in"), number("1"), number("1.5"), symbol("+"), symbol("("), text, day, end, {Kind: 6, Text: "?"}}
	eachOf(bits, 5, func(ts []lex.Token) {
		if got, want := name.Join(ts), joinModel(ts); got != want {
			t.Errorf("Join(%s) = %q, not %q", told(ts), got, want)
		}
	})
}

// Names, and what Plain and Local say of them.
func TestP171Names(t *testing.T) {
	for _, x := range []struct {
		s            string
		plain, local bool
		want         []lex.Token
	}{
		{"a", true, true, []lex.Token{word("a")}},
		{"_", true, true, []lex.Token{word("_")}},
		{"E5", true, true, []lex.Token{word("E5")}},
		{"\u20ac 1", true, true, []lex.Token{word("\u20ac"), number("1")}},
		{"order date", true, true, []lex.Token{word("order"), word("date")}},
		{"a b 2", true, true, []lex.Token{word("a"), word("b"), number("2")}},
		{"a 1 2", true, true, []lex.Token{word("a"), number("1"), number("2")}},
		{"a 007 b", true, true, []lex.Token{word("a"), number("007"), word("b")}},
		{"a 1 E5", true, true, []lex.Token{word("a"), number("1"), word("E5")}},
		{"a inn", true, true, []lex.Token{word("a"), word("inn")}},
		{"inn a", true, true, []lex.Token{word("inn"), word("a")}},
		{"If", true, true, []lex.Token{word("If")}},
		{"a-b", false, true, []lex.Token{word("a"), symbol("-"), word("b")}},
		{"a+b", false, true, []lex.Token{word("a"), symbol("+"), word("b")}},
		{"a*b", false, true, []lex.Token{word("a"), symbol("*"), word("b")}},
		{"a/b", false, true, []lex.Token{word("a"), symbol("/"), word("b")}},
		{"a.b", false, true, []lex.Token{word("a"), symbol("."), word("b")}},
		{"a'b", false, true, []lex.Token{word("a"), symbol("'"), word("b")}},
		{"a+", false, true, []lex.Token{word("a"), symbol("+")}},
		{"a.", false, true, []lex.Token{word("a"), symbol(".")}},
		{"a/", false, true, []lex.Token{word("a"), symbol("/")}},
		{"a'", false, true, []lex.Token{word("a"), symbol("'")}},
		{"a''b", false, true, []lex.Token{word("a"), symbol("'"), symbol("'"), word("b")}},
		{"a+-*/.'", false, true, []lex.Token{word("a"), symbol("+"), symbol("-"), symbol("*"), symbol("/"), symbol("."), symbol("'")}},
		{"a*/b", false, true, []lex.Token{word("a"), symbol("*"), symbol("/"), word("b")}},
		{"a-1", false, true, []lex.Token{word("a"), symbol("-"), number("1")}},
		{"a 1.b", false, true, []lex.Token{word("a"), number("1"), symbol("."), word("b")}},
		{"a 1+2 3", false, true, []lex.Token{word("a"), number("1"), symbol("+"), number("2"), number("3")}},
		{"a 1.", false, true, []lex.Token{word("a"), number("1"), symbol(".")}},
		{"a.b'c", false, true, []lex.Token{word("a"), symbol("."), word("b"), symbol("'"), word("c")}},
		{"date and time", false, false, []lex.Token{word("date"), word("and"), word("time")}},
		{"years and months duration", false, false, []lex.Token{word("years"), word("and"), word("months"), word("duration")}},
		{"a in", false, false, []lex.Token{word("a"), word("in")}},
		{"a-in", false, false, []lex.Token{word("a"), symbol("-"), word("in")}},
		{"a+if+b", false, false, []lex.Token{word("a"), symbol("+"), word("if"), symbol("+"), word("b")}},
		{"a 1 of", false, false, []lex.Token{word("a"), number("1"), word("of")}},
	} {
		at := 0
		for i := range x.want {
			x.want[i].At = at + strings.Index(x.s[at:], x.want[i].Text)
			at = x.want[i].At + len(x.want[i].Text)
		}
		if got, ok := name.Read(x.s); !ok || !slices.Equal(got, x.want) {
			t.Errorf("Read(%q) = %s, %v", x.s, told(got), ok)
		}
		if name.Plain(x.s) != x.plain || name.Local(x.s) != x.local {
			t.Errorf("Plain(%q) = %v, Local %v", x.s, !x.plain, !x.local)
		}
		checkText(t, x.s)
	}
	for _, w := range strings.Fields(keywords) {
		for _, s := range []string{"a " + w, "a " + w + " b", "a-" + w, "a " + w + " 1", "a'" + w + "'", "a1 b " + w + " c d"} {
			if _, ok := name.Read(s); !ok || name.Plain(s) || name.Local(s) {
				t.Errorf("%q is a name, neither plain nor local", s)
			}
		}
		for _, s := range []string{w + "s", w + "1", "_" + w, "a " + w + "s", "a x" + w, strings.ToUpper(w), w + "\u00e9 b"} {
			if _, ok := name.Read(s); !ok || !name.Plain(s) || !name.Local(s) {
				t.Errorf("%q is a plain name", s)
			}
		}
	}
}

// Texts that are no names, or not as Join tells them.
func TestP171NoNames(t *testing.T) {
	long := strings.Repeat("a ", 5000)
	all := []string{
		"", " ", "\t", "// a", "/* a */", "1", "1 a", "007", "1.5", "+", "+a", "-a", "*", "/a", ".a", "'a", "'", "(", "a(", "a()", "(a)", "a,b", "a:", "a=b", "a<b", "a[b]", "{a}",
		"a  b", " a", "a ", "a\tb", "a\nb", "a\rb", "a \tb", "a/**/b", "a /**/b", "a// b", "a //", "a/* b */", "a-b //", "a - b", "a -b", "a- b", "a .", "a 'b", "a' b", "a + ", "a+ 1", "a +1", "a. b", "a/ b",
		"a1.5", "a.5", "a .5", "a 1.5", "a 1E5", "a 1E+5", "a 1.5 b", "a 2E1", "a-1.5", "a 1 .5", "a 1 1E1", "a 1a", "a 12b", "a..b", "a..", "a**b", "a**", "a->b", "a<=b", "a!=b", "a>=b", "a//b", "a//", "a/*b", "a'.5",
		"a\"b\"", "a \"b\"", "\"a\"", "@\"P1D\"", "a@\"P1D\"", "a \"\"", "a @\"\"", "a!", "a?", "a \"", "a\x00", "a b\x00", "\xff", "a\xff", "a \xff", "a b \xc3", "a; b", "a\\b", "a & b", "#a", "a%",
		"\u00e9/ /", "a\u00e9  b", long, " " + long + "a", long + " a", long + "1.5", long + "(", "1" + long, strings.Repeat("a", 5000) + " ",
	}
	for _, w := range strings.Fields(keywords) {
		all = append(all, w, w+" a", w+" 1", w+"-a", w+"+", w+"'s", w+" "+w, w+".a b")
	}
	for _, s := range all {
		if got, ok := name.Read(s); ok || len(got) != 0 {
			t.Errorf("Read(%s) = %s, %v, not false", short(s), told(got), ok)
		}
		if name.Plain(s) || name.Local(s) {
			t.Errorf("%s is no name, so neither plain nor local", short(s))
		}
		checkText(t, s)
	}
}

// All short texts of what names are made of, and of what breaks them.
func TestP171ShortTexts(t *testing.T) {
	names := 0
	eachOf([]string{"a", "in", "1", "E5", " ", "+", "-", "*", "/", ".", "'"}, 5, func(bits []string) {
		s := strings.Join(bits, "")
		checkText(t, s)
		if _, ok := readModel(s); ok {
			names++
		}
	})
	if names < 20000 {
		t.Errorf("%d names alone tell little", names)
	}
	eachOf([]string{"a", "of", "\u20ac", "1.5", "  ", " ", "\t", "(", "\"b\"", "@\"c\"", "/**/", "//", "..", "->", "\xff", "0"}, 4, func(bits []string) {
		checkText(t, strings.Join(bits, ""))
	})
	for r := rune(0); r < 0x3000; r++ {
		for _, s := range []string{string(r), "a" + string(r), "a " + string(r), "a" + string(r) + "b", "a-" + string(r) + "1"} {
			checkText(t, s)
		}
	}
}

// A name that is made of its pieces by Join is read as them.
func TestP171JoinRead(t *testing.T) {
	r := rand.New(rand.NewSource(2))
	bits := []lex.Token{word("a"), word("b1"), word("\u00e9"), word("and"), word("in"), number("1"), number("20"), symbol("+"), symbol("-"), symbol("*"), symbol("/"), symbol("."), symbol("'")}
	names := 0
	for range 100000 {
		ts := append([]lex.Token{bits[r.Intn(3)]}, someOf(r, bits, 8)...)
		s := name.Join(ts)
		checkText(t, s)
		got, ok := name.Read(s)
		if otherForm.MatchString(s) {
			continue
		}
		names++
		for i := range got {
			got[i].At = 0
		}
		if !ok || !slices.Equal(got, ts) {
			t.Errorf("Read(%q) = %s, %v, not %s", s, told(got), ok, told(ts))
		}
	}
	if names < 50000 {
		t.Errorf("%d names alone tell little", names)
	}
}
