package lex_test

import (
	"math/rand"
	"strings"
	"testing"

	"casuist/lex"
)

// Whatever is given, the call ends, and beside a false there are no tokens.
func TestW1AnyBytes(t *testing.T) {
	r := rand.New(rand.NewSource(1))
	for range 60000 {
		s := make([]byte, r.Intn(12))
		for i := range s {
			s[i] = byte(r.Intn(256))
			if r.Intn(3) > 0 {
				s[i] &= 0x7f
			}
		}
		checkModel(t, string(s))
	}
	for one := range 256 {
		for two := range 256 {
			checkModel(t, string([]byte{byte(one), byte(two)}))
		}
	}
}

// Each source that is cut short, or has one byte more or another one, ends as well.
func TestW1OneByteOff(t *testing.T) {
	for _, s := range []string{
		"a1 +.5E3..\u00e9 \"x\\n\\u0041\\\"\\U01F600\" @\"P1D\" // end\n<= ** -> 12E1234567 /* + */ '",
		"string join(items[quantity >= 2].name, \"\u20ac\") /* a */ // b",
	} {
		for at := range len(s) + 1 {
			checkModel(t, s[:at])
			checkModel(t, s[at:])
			for b := range 256 {
				checkModel(t, s[:at]+string([]byte{byte(b)})+s[at:])
				if at < len(s) {
					checkModel(t, s[:at]+string([]byte{byte(b)})+s[at+1:])
				}
			}
		}
	}
}

// A long source takes time by its length, whatever it is made of.
func TestW1LongOnes(t *testing.T) {
	const many = 1 << 20
	for _, x := range []struct {
		bit   string
		kinds []lex.Kind
	}{
		{"(", []lex.Kind{lex.Symbol}}, {"..", []lex.Kind{lex.Symbol}}, {"**", []lex.Kind{lex.Symbol}}, {"-", []lex.Kind{lex.Symbol}}, {"a ", []lex.Kind{lex.Word}}, {"1 ", []lex.Kind{lex.Number}}, {".5", []lex.Kind{lex.Number}}, {"\"\"", []lex.Kind{lex.String}}, {"\"\\n\"", []lex.Kind{lex.String}}, {"@\"a\"", []lex.Kind{lex.Temporal}},
		{"/**/", nil}, {"// a\n", nil}, {" ", nil}, {"1E.(", []lex.Kind{lex.Number, lex.Word, lex.Symbol, lex.Symbol}}, {"+E-", []lex.Kind{lex.Symbol, lex.Word, lex.Symbol}}, {"a/* * */", []lex.Kind{lex.Word}}, {"1E+(", []lex.Kind{lex.Number, lex.Word, lex.Symbol, lex.Symbol}},
	} {
		ts, ok := lex.Tokens(strings.Repeat(x.bit, many))
		if !ok || len(ts) != many*len(x.kinds)+1 {
			t.Errorf("of many %q come %d tokens, %v", x.bit, len(ts), ok)
			continue
		}
		for i, one := range ts[:len(ts)-1] {
			if one.Kind != x.kinds[i%len(x.kinds)] || one.At/len(x.bit) != i/len(x.kinds) {
				t.Errorf("of many %q comes %s", x.bit, told(ts[i:i+1]))
				break
			}
		}
		if end := ts[len(ts)-1]; end != (lex.Token{At: many * len(x.bit)}) {
			t.Errorf("of many %q the end is %s", x.bit, told([]lex.Token{end}))
		}
	}
	row := strings.Repeat("a", many)
	digits := strings.Repeat("1", many)
	checkTokens(t, row, word(0, row))
	checkTokens(t, digits, number(0, digits))
	checkTokens(t, digits+"."+digits+"E5", number(0, digits+"."+digits+"E5"))
	checkTokens(t, "1E"+digits, number(0, "1"), word(1, "E"+digits))
	checkTokens(t, "1E+"+digits, number(0, "1"), word(1, "E"), symbol(2, "+"), number(3, digits))
	checkTokens(t, "\""+row+"\"", quoted(0, row))
	checkTokens(t, "\""+strings.Repeat("\\u20ac", many)+"\"", quoted(0, strings.Repeat("\u20ac", many)))
	checkTokens(t, "@\""+strings.Repeat("\\\\", many)+"\"", temporal(0, strings.Repeat("\\", many)))
	checkTokens(t, "/*"+strings.Repeat("* ", many)+"*/a", word(2*many+4, "a"))
	checkTokens(t, strings.Repeat("/", many))
	for _, s := range []string{"\"" + row, "@\"" + row, row + "!", "/*" + row, "/*" + strings.Repeat("* ", many), "/*" + strings.Repeat("*", many), "\"" + strings.Repeat("\\n", many), strings.Repeat("\"a", many) + "\"", strings.Repeat("(", many) + "\xff", strings.Repeat("@", many), strings.Repeat("!", many), strings.Repeat("\\", many)} {
		checkNone(t, s)
	}
}
