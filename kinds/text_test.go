package kinds_test

import (
	"math/rand"
	"strconv"
	"strings"
	"testing"
	"unicode/utf8"

	"casuist/api"
	"casuist/kinds"
)

func TestP132Word(t *testing.T) {
	for k := api.Kind(-300); k <= 300; k++ {
		if got := kinds.Word(k); got != words()[k] {
			t.Errorf("Word(%d) = %q", k, got)
		}
	}
	for _, k := range noKinds() {
		if got := kinds.Word(k); got != "" {
			t.Errorf("Word(%d) = %q", k, got)
		}
	}
	if len(words()) != 10 {
		t.Error(words())
	}
}

func checkQuote(t *testing.T, s, want string) {
	t.Helper()
	if got := kinds.Quote(s); got != want {
		t.Errorf("Quote(%q) = %q, not %q", s, got, want)
	}
}

func TestP132Quote(t *testing.T) {
	checkQuote(t, "", `""`)
	checkQuote(t, "a", `"a"`)
	checkQuote(t, "order date", `"order date"`)
	checkQuote(t, `"`, `"\""`)
	checkQuote(t, `\`, `"\\"`)
	checkQuote(t, `\"`, `"\\\""`)
	checkQuote(t, `""`, `"\"\""`)
	checkQuote(t, `\\`, `"\\\\"`)
	checkQuote(t, "\n", `"\n"`)
	checkQuote(t, "\r", `"\r"`)
	checkQuote(t, "\t", `"\t"`)
	checkQuote(t, `\n`, `"\\n"`)
	checkQuote(t, "\r\n", `"\r\n"`)
	checkQuote(t, "a\nb\tc\rd\\e\"f", `"a\nb\tc\rd\\e\"f"`)
	checkQuote(t, "'`/", "\"'`/\"")
	checkQuote(t, "a\x00b", "\"a\x00b\"")
	checkQuote(t, "\u00e9", "\"\u00e9\"")
	checkQuote(t, "\u20ac\u20ac", "\"\u20ac\u20ac\"")
	checkQuote(t, "\U0001f600", "\"\U0001f600\"")
	checkQuote(t, "a\u00e9\u20ac\U0001f600\"", "\"a\u00e9\u20ac\U0001f600\\\"\"")
	checkQuote(t, "e\u0301\u2028\ufeff\ufffd", "\"e\u0301\u2028\ufeff\ufffd\"")
}

// Each sign by itself, and between two others: only five come with another one ahead.
func TestP132QuoteEachSign(t *testing.T) {
	marked := map[rune]string{'"': `\"`, '\\': `\\`, '\n': `\n`, '\r': `\r`, '\t': `\t`}
	for r := rune(0); r <= utf8.MaxRune; r++ {
		if !utf8.ValidRune(r) {
			continue
		}
		s, want := string(r), string(r)
		if mark, ok := marked[r]; ok {
			want = mark
		}
		checkQuote(t, s, `"`+want+`"`)
		if r < 0x3000 {
			checkQuote(t, "a"+s+s+"\u20ac", `"a`+want+want+"\u20ac\"")
		}
	}
}

// Each byte that begins no rune counts as one of its own, as everywhere.
func TestP132QuoteOfNoUTF8(t *testing.T) {
	checkQuote(t, "\xff", "\"\ufffd\"")
	checkQuote(t, "a\x80b", "\"a\ufffdb\"")
	checkQuote(t, "\xe2\x82", "\"\ufffd\ufffd\"")
	checkQuote(t, "\xe2\x82\"", "\"\ufffd\ufffd\\\"\"")
	checkQuote(t, "\xc3\n\xed\xa0\x80", "\"\ufffd\\n\ufffd\ufffd\ufffd\"")
	checkQuote(t, "\xf4\x90\x80\x80", "\"\ufffd\ufffd\ufffd\ufffd\"")
	checkQuote(t, "\xc0\xa2\\", "\"\ufffd\ufffd\\\\\"")
}

func someText(r *rand.Rand) string {
	out := ""
	for range r.Intn(9) {
		out += pick(r, []string{"\"", "\\", "\n", "\r", "\t", "n", "a", " ", "\u00e9", "\u20ac", "\U0001f600", "\x00", "\xff", "\xc3", "\x82"})
	}
	return out
}

func TestP132QuoteByTheWords(t *testing.T) {
	r := rand.New(rand.NewSource(132))
	for range 100000 {
		s := someText(r)
		checkQuote(t, s, quoteModel(s))
	}
	long := strings.Repeat("a\"\u20ac\n", 1<<18)
	checkQuote(t, long, `"`+strings.Repeat("a\\\"\u20ac\\n", 1<<18)+`"`)
}

func checkText(t *testing.T, x api.Type, want string) {
	t.Helper()
	if got := kinds.Text(x); got != want {
		t.Errorf("Text(%s) = %.200q, not %.200q", show(x), got, want)
	}
}

func TestP132Text(t *testing.T) {
	n, s := number(), text()
	for k, word := range words() {
		checkText(t, of(k), word)
		checkText(t, list(of(k)), "list<"+word+">")
		checkText(t, span(of(k)), "range<"+word+">")
		checkText(t, context("a", of(k)), `context<"a": `+word+">")
		checkText(t, function(of(k)), "function<> -> "+word)
		checkText(t, function(of(k), of(k)), "function<"+word+"> -> "+word)
	}
	checkText(t, list(list(span(n))), "list<list<range<number>>>")
	checkText(t, context(""), "context<>")
	checkText(t, context("a b", n, s), `context<"a": number, "b": string>`)
	checkText(t, context("b a c", n, s, context("")), `context<"b": number, "a": string, "c": context<>>`)
	checkText(t, context("a b", context("c d", n, list(s)), context("e", anything())), `context<"a": context<"c": number, "d": list<string>>, "b": context<"e": Any>>`)
	checkText(t, function(n, s), "function<number> -> string")
	checkText(t, function(n, anything(), s), "function<number, Any> -> string")
	checkText(t, function(s, n, null(), boolean()), "function<string, number, Null> -> boolean")
	checkText(t, function(function(n, s)), "function<> -> function<number> -> string")
	checkText(t, function(function(n, s), function(n)), "function<function<number> -> string> -> function<> -> number")
	checkText(t, function(function(n), function(n), function(s)), "function<function<> -> number, function<> -> number> -> function<> -> string")
	checkText(t, function(context("f", function(n, s)), list(function(n))), `function<context<"f": function<number> -> string>> -> list<function<> -> number>`)
	checkText(t, context("f g", function(list(n), n), function(context(""))), `context<"f": function<list<number>> -> number, "g": function<> -> context<>>`)
}

func TestP132TextOfNames(t *testing.T) {
	n := number()
	for _, name := range []string{"", " ", "order date", `"`, `\`, "\n", "\r\t", "a\"b", "\u00e9\u20ac\U0001f600", "\xff", "a\": number, \"b", ">", "\x00"} {
		x := api.Type{Kind: api.Context, Names: []string{name, name + "'"}, Items: []api.Type{n, list(n)}}
		checkText(t, x, "context<"+quoteModel(name)+": number, "+quoteModel(name+"'")+": list<number>>")
	}
}

func TestP132TextByTheWords(t *testing.T) {
	for _, x := range many() {
		checkText(t, x, textModel(x))
	}
	r := rand.New(rand.NewSource(1322))
	for range 20000 {
		x := someType(r, 5)
		checkText(t, x, textModel(x))
	}
}

// Types that are not the very same have other texts, as long as their names are UTF-8.
func TestP132TextsTellTypesApart(t *testing.T) {
	seen := map[string]api.Type{}
	r := rand.New(rand.NewSource(1323))
	all := many()
	for range 20000 {
		all = append(all, someType(r, 3))
	}
	for _, x := range all {
		s := kinds.Text(x)
		if other, ok := seen[s]; ok && !same(x, other) {
			t.Errorf("both %s and %s have the text %s", show(x), show(other), s)
		}
		seen[s] = x
	}
	if len(seen) < 5000 {
		t.Error(len(seen))
	}
}

func TestP132TextDeep(t *testing.T) {
	for sides, around := range arounds() {
		x := nest(deepest-1, text(), around)
		checkText(t, x, strings.Repeat(sides[0], deepest-1)+"string"+strings.Repeat(sides[1], deepest-1))
	}
}

func TestP132TextWide(t *testing.T) {
	x, parts := api.Type{Kind: api.Context}, []string{}
	for i := range deepest {
		name := "\"" + strconv.Itoa(i)
		x.Names, x.Items = append(x.Names, name), append(x.Items, number())
		parts = append(parts, `"\`+name+`": number`)
	}
	checkText(t, x, "context<"+strings.Join(parts, ", ")+">")
	checkText(t, function(x.Items...), "function<"+strings.Repeat("number, ", deepest-2)+"number> -> number")
}
