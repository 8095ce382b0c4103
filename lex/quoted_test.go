package lex_test

import (
	"fmt"
	"math/rand"
	"strings"
	"testing"
	"unicode/utf8"

	"casuist/kinds"
	"casuist/lex"
)

// checkString holds what stands within quotes to a text, as a string and as a temporal's.
func checkString(t *testing.T, within, want string) {
	t.Helper()
	s := "\"" + within + "\""
	checkTokens(t, s, quoted(0, want))
	checkTokens(t, "@"+s, temporal(0, want))
	checkTokens(t, "a "+s+" b", word(0, "a"), quoted(2, want), word(len(s)+3, "b"))
	checkModel(t, s)
}

// checkNoString holds what stands within quotes to being no string's.
func checkNoString(t *testing.T, within string) {
	t.Helper()
	for _, s := range []string{"\"" + within + "\"", "@\"" + within + "\"", "\"a" + within + "\"", "\"" + within + "z\"", "a \"" + within + "\" b", "\"a\" \"" + within + "\""} {
		checkNone(t, s)
		checkModel(t, s)
	}
}

func TestP163Escapes(t *testing.T) {
	for _, x := range []struct{ within, want string }{
		{`\n`, "\n"}, {`\r`, "\r"}, {`\t`, "\t"}, {`\"`, "\""}, {`\\`, "\\"}, {`\'`, "'"}, {`'`, "'"},
		{`a\nb`, "a\nb"}, {`\n\r\t\"\\\'`, "\n\r\t\"\\'"}, {`\\n`, "\\n"}, {`\\\n`, "\\\n"}, {`\\\\`, "\\\\"}, {`\\\"`, "\\\""}, {`\"\"`, "\"\""}, {`\"a\"`, "\"a\""}, {`\\u0041`, "\\u0041"}, {`\nn`, "\nn"}, {`\\t\t`, "\\t\t"}, {"\u20ac\\n\u00e9", "\u20ac\n\u00e9"},
		{`\u0041`, "A"}, {`\u00e9`, "\u00e9"}, {`\u00E9`, "\u00e9"}, {`\u20ac`, "\u20ac"}, {`\u20AC`, "\u20ac"}, {`\u20aC`, "\u20ac"}, {`\uABCD`, "\uabcd"}, {`\uabcd`, "\uabcd"}, {`\uaBcD`, "\uabcd"}, {`\uFFFF`, "\uffff"}, {`\uffff`, "\uffff"}, {`\ufffd`, "\ufffd"}, {`\ufeff`, "\ufeff"},
		{`\u0000`, "\x00"}, {`\u0001`, "\x01"}, {`\u007f`, "\x7f"}, {`\u0080`, "\u0080"}, {`\u07ff`, "\u07ff"}, {`\u0800`, "\u0800"}, {`\u0123`, "\u0123"}, {`\u4567`, "\u4567"}, {`\u89ab`, "\u89ab"}, {`\ucdef`, "\ucdef"}, {`\uef01`, "\uef01"},
		// The digits behind the fourth, or the sixth, are runes of their own.
		{`\u00411`, "A1"}, {`\u0041a`, "Aa"}, {`\u004142`, "A42"}, {`\u0041\u0042`, "AB"}, {`x\u0041y`, "xAy"}, {`\u0041g`, "Ag"}, {`\U0000411`, "A1"}, {`\U000041f`, "Af"}, {`\U000041\U000042`, "AB"}, {`\U000041\u0042\n`, "AB\n"},
		{`\U000041`, "A"}, {`\U01F600`, "\U0001f600"}, {`\U01f600`, "\U0001f600"}, {`\U0020AC`, "\u20ac"}, {`\U000000`, "\x00"}, {`\U00ffff`, "\uffff"}, {`\U010000`, "\U00010000"}, {`\U10ffff`, "\U0010ffff"}, {`\U10FFFF`, "\U0010ffff"}, {`\U10FfFe`, "\U0010fffe"}, {`\U0fffff`, "\U000fffff"}, {`\U0aBcDe`, "\U000abcde"},
		{`\ud7ff`, "\ud7ff"}, {`\uD7FF`, "\ud7ff"}, {`\ue000`, "\ue000"}, {`\uE000`, "\ue000"}, {`\U00d7ff`, "\ud7ff"}, {`\U00e000`, "\ue000"}, {`\U01d800`, "\U0001d800"}, {`\U10d800`, "\U0010d800"}, {`\U01dfff`, "\U0001dfff"},
		// What an escape stands for ends nothing, and begins nothing.
		{`\u0022`, "\""}, {`\u005c`, "\\"}, {`\u005cn`, "\\n"}, {`\u005c\"`, "\\\""}, {`\u000a`, "\n"}, {`\u000d`, "\r"}, {`\u0009`, "\t"}, {`\U00000a`, "\n"}, {`\U000022`, "\""}, {`\u0027`, "'"},
	} {
		checkString(t, x.within, x.want)
	}
}

func TestP163NoEscapes(t *testing.T) {
	// Each sign behind the \ but those of the chapter.
	for r := rune(0); r < 0x250; r++ {
		if strings.ContainsRune("nrt\"\\'uU", r) {
			continue
		}
		checkNoString(t, "\\"+string(r))
		checkNoString(t, "\\"+string(r)+"0041")
	}
	for _, within := range []string{
		`\ n`, `\N`, `\R`, `\T`, `\x`, `\x41`, `\0`, `\1`, `\101`, `\a`, `\b`, `\f`, `\v`, `\e`, `\/`, `\&`, `\{`, `\(`, `\_`, `\-`, `\.`, `\u{41}`, `\U{41}`, "\\\n", "\\\r", "\\\r\n", "\\\t", "\\\u00e9", "\\\u20ac", "\\\U0001f600", "\\\uff4e", "\\\u0661",
		`a\`, `\\\`, `\n\`, `\\\\\`, `\`,
		`\u`, `\u0`, `\u00`, `\u004`, `\u12`, `\u004g`, `\u00g1`, `\u0g41`, `\ug041`, `\u 0041`, `\u004 1`, `\u004_1`, `\u0_41`, `\u_041`, `\u+041`, `\u-041`, `\u0x41`, `\u0X41`, `\u0z41`, `\u0o41`, `\u004/`, `\u004:`, `\u004@`, `\u004G`, "\\u004`", `\u004.`, `\uU041`, `\u\u0041`, `\u\0041`, `\u00\41`,
		"\\u004\u00e9", "\\u004\u0661", "\\u00\u20ac", "\\u\uff10\uff10\uff14\uff11", "\\u004\n", "\\u004\x00",
		`\U`, `\U0`, `\U00`, `\U0041`, `\U00041`, `\U1F600`, `\U00004`, `\U00004g`, `\U0000g1`, `\Ug00041`, `\U00004_1`, `\U+00041`, `\U-00041`, `\U0x0041`, `\U00004 1`, "\\U00004\u00e9", "\\U00004\n", `\U\000041`,
		`\ud800`, `\uD800`, `\ud801`, `\uda00`, `\udbff`, `\udc00`, `\uDC00`, `\udffe`, `\udfff`, `\uDFFF`, `\ud83d\ude00`, `\uD83D\uDE00`, `\ude00\ud83d`, `\U00d800`, `\U00D800`, `\U00dabc`, `\U00dfff`, `\U00DFFF`,
		`\U110000`, `\U110001`, `\U11ffff`, `\U200000`, `\U800000`, `\Uffffff`, `\UFFFFFF`, `\U7fffff`, `\UD80000`,
	} {
		checkNoString(t, within)
	}
	// Nothing behind.
	for _, s := range []string{`"\`, `"a\`, `"\n`, `"\"`, `"\\\"`, `"\u`, `"\u0`, `"\u0041`, `"\u004`, `"\U`, `"\U00004`, `"\U000041`, `"\'`, `@"\`, `@"\"`, `@"\u0041`} {
		checkNone(t, s)
		checkModel(t, s)
	}
	// Outside of quotes an escape is none.
	for _, s := range []string{`\n`, `\"a"`, `a\nb`, `\u0041`, `\\`, `"a"\`, `\ "a"`} {
		checkNone(t, s)
		checkModel(t, s)
	}
}

// Each rune is told by its number, and each number that is none's by nothing.
func TestP163EachNumber(t *testing.T) {
	for n := range 0x112000 {
		want, there := string(rune(n)), n <= 0x10ffff && !(0xd800 <= n && n <= 0xdfff)
		within := []string{fmt.Sprintf("\\U%06x", n), fmt.Sprintf("\\U%06X", n)}
		if n <= 0xffff {
			within = append(within, fmt.Sprintf("\\u%04x", n), fmt.Sprintf("\\u%04X", n))
		}
		for _, w := range within {
			ts, ok := lex.Tokens("\"" + w + "\"")
			if ok != there || there && (len(ts) != 2 || ts[0] != quoted(0, want)) {
				t.Fatalf("of %s come %s, %v", w, told(ts), ok)
			}
		}
	}
}

func TestP163EachShortOne(t *testing.T) {
	eachOf(signs("\"\\nu0a"), 6, func(s string) {
		checkModel(t, s)
		checkModel(t, "\""+s+"\"")
	})
	eachOf(signs("08dDfFgU"), 4, func(s string) {
		checkModel(t, "\"\\u"+s+"\"")
		checkModel(t, "\"\\ud"+s+"\"")
		checkModel(t, "\"\\U00"+s+"\"")
		checkModel(t, "\"\\U10"+s+"\"")
		checkModel(t, "\"\\U"+s+"00\"")
	})
	eachOf([]string{"\\", "\"", "'", "n", "r", "t", "\n", "\r", "u0041", "\u20ac"}, 4, func(s string) { checkModel(t, "\""+s+"\"") })
}

// someString is a text at random, and a string that tells it, each rune in one of the ways that there are.
func someString(r *rand.Rand) (string, string) {
	var text, all strings.Builder
	all.WriteString("\"")
	runes := []rune("ab /*'\"\\\n\r\t@nu0\u00e9\u20ac\ufffd\U0001f600\U0010ffff\x00")
	for range r.Intn(8) {
		x := runes[r.Intn(len(runes))]
		text.WriteRune(x)
		all.WriteString(someSpelling(r, x))
	}
	all.WriteString("\"")
	return text.String(), all.String()
}

func someSpelling(r *rand.Rand, x rune) string {
	ways := []string{fmt.Sprintf("\\U%06x", x), fmt.Sprintf("\\U%06X", x)}
	if x <= 0xffff {
		ways = append(ways, fmt.Sprintf("\\u%04x", x), fmt.Sprintf("\\u%04X", x))
	}
	if at := strings.IndexRune("\n\r\t\"\\'", x); at >= 0 {
		ways = append(ways, "\\"+"nrt\"\\'"[at:at+1])
	}
	if !strings.ContainsRune("\n\r\"\\", x) {
		ways = append(ways, string(x))
	}
	return ways[r.Intn(len(ways))]
}

// A text, quoted as the types' layer does it, is a string of that text.
func TestP163Quoted(t *testing.T) {
	r := rand.New(rand.NewSource(163))
	for range 20000 {
		text, all := someString(r)
		checkTokens(t, all, quoted(0, text))
		checkModel(t, all)
		checkTokens(t, kinds.Quote(text), quoted(0, text))
		checkTokens(t, "@"+kinds.Quote(text), temporal(0, text))
	}
	for x := rune(0); x <= 0x10ffff; x++ {
		if !utf8.ValidRune(x) {
			continue
		}
		text := string(x)
		if ts, ok := lex.Tokens(kinds.Quote(text)); !ok || len(ts) != 2 || ts[0] != quoted(0, text) {
			t.Fatalf("of %s come %s, %v", kinds.Quote(text), told(ts), ok)
		}
	}
}

func TestP163ByTheWords(t *testing.T) {
	bits := append(signs("a1\"\"'nrtuU0dDfF \n@"), "\\", "\\", "\\n", "\\\"", "\\\\", "\\u0041", "\\ud7", "\\u00", "\\U01", "\\U10", "ffff", "d800", "\u20ac", "\xff")
	r := rand.New(rand.NewSource(1631))
	there := 0
	for range 60000 {
		s := "\"" + someOf(r, bits, 8) + "\""
		checkModel(t, s)
		if ts, ok := lex.Tokens(s); ok && len(ts) > 1 && ts[0].Kind == lex.String && len(ts[0].Text) > 2 {
			there++
		}
	}
	if there < 3000 {
		t.Error("the strings tell little:", there)
	}
}
