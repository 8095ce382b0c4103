package lex_test

import (
	"math/rand"
	"regexp"
	"slices"
	"strconv"
	"strings"
	"testing"
	"unicode/utf8"

	"casuist/lex"
)

// What the chapter's words say, done plainly with regexp, for the tests to hold the package against.

var (
	blankModel  = regexp.MustCompile(`\A(?:[ \t\n\r]+|//[^\n]*|/\*(?s:.*?)\*/)*`)
	wordModel   = regexp.MustCompile(`\A[A-Za-z_\x{80}-\x{10ffff}][A-Za-z_\x{80}-\x{10ffff}0-9]*`)
	digitsModel = regexp.MustCompile(`\A(?:[0-9]+(?:\.[0-9]+)?|\.[0-9]+)`)
	powerModel  = regexp.MustCompile(`\AE[+-]?([0-9]+)`)
	escapeModel = regexp.MustCompile(`\\(?:[nrt"\\']|u[0-9A-Fa-f]{4}|U[0-9A-Fa-f]{6})`)
	quotedModel = regexp.MustCompile(`\A"(?:[^"\\\n\r]|` + escapeModel.String() + `)*"`)
	symbolModel = regexp.MustCompile(`\A(?:\.\.|\*\*|<=|>=|!=|->|[()\[\]{},:.+*/=<>'-])`)
)

// escapesModel is what a text within quotes stands for; false, if an escape in it tells no rune.
func escapesModel(s string) (string, bool) {
	ok := true
	out := escapeModel.ReplaceAllStringFunc(s, func(e string) string {
		switch e[1] {
		case 'n':
			return "\n"
		case 'r':
			return "\r"
		case 't':
			return "\t"
		case 'u', 'U':
			n, _ := strconv.ParseInt(e[2:], 16, 64)
			if n > 0x10ffff || 0xd800 <= n && n <= 0xdfff {
				ok = false
			}
			return string(rune(n))
		}
		return e[1:]
	})
	return out, ok
}

// stringModel is the string at a text's beginning: what it stands for, and its bytes.
func stringModel(s string) (string, string) {
	all := quotedModel.FindString(s)
	if all == "" {
		return "", ""
	}
	text, ok := escapesModel(all[1 : len(all)-1])
	if !ok {
		return "", ""
	}
	return text, all
}

func numberModel(s string) string {
	digits := digitsModel.FindString(s)
	if digits == "" {
		return ""
	}
	power := powerModel.FindStringSubmatch(s[len(digits):])
	if power == nil || len(power[1]) > 6 {
		return digits
	}
	return digits + power[0]
}

// firstModel goes through the chapter's table: the token, and its bytes.
func firstModel(s string) (lex.Token, string) {
	if w := wordModel.FindString(s); w != "" {
		return lex.Token{Kind: lex.Word, Text: w}, w
	}
	if n := numberModel(s); n != "" {
		return lex.Token{Kind: lex.Number, Text: n}, n
	}
	if text, all := stringModel(s); all != "" {
		return lex.Token{Kind: lex.String, Text: text}, all
	}
	if s[0] == '@' {
		if text, all := stringModel(s[1:]); all != "" {
			return lex.Token{Kind: lex.Temporal, Text: text}, "@" + all
		}
	}
	y := symbolModel.FindString(s)
	return lex.Token{Kind: lex.Symbol, Text: y}, y
}

func tokensModel(s string) ([]lex.Token, bool) {
	if !utf8.ValidString(s) {
		return nil, false
	}
	var out []lex.Token
	at := 0
	for {
		at += len(blankModel.FindString(s[at:]))
		if strings.HasPrefix(s[at:], "/*") {
			return nil, false
		}
		if at == len(s) {
			return append(out, lex.Token{Kind: lex.End, At: at}), true
		}
		t, all := firstModel(s[at:])
		if all == "" {
			return nil, false
		}
		t.At = at
		out = append(out, t)
		at += len(all)
	}
}

// Tokens, told shortly.

func word(at int, text string) lex.Token { return lex.Token{Kind: lex.Word, Text: text, At: at} }

func number(at int, text string) lex.Token { return lex.Token{Kind: lex.Number, Text: text, At: at} }

func quoted(at int, text string) lex.Token { return lex.Token{Kind: lex.String, Text: text, At: at} }

func temporal(at int, text string) lex.Token {
	return lex.Token{Kind: lex.Temporal, Text: text, At: at}
}

func symbol(at int, text string) lex.Token { return lex.Token{Kind: lex.Symbol, Text: text, At: at} }

// told is tokens as a text, for what a test complains of.
func told(ts []lex.Token) string {
	var out []string
	for _, t := range ts[:min(len(ts), 20)] {
		out = append(out, strconv.Itoa(t.At)+": "+strconv.Itoa(int(t.Kind))+" "+short(t.Text))
	}
	if len(ts) > 20 {
		out = append(out, "and so on to "+strconv.Itoa(len(ts)))
	}
	return "[" + strings.Join(out, ", ") + "]"
}

// short is a text for what a test complains of.
func short(s string) string {
	if len(s) > 120 {
		return strconv.Quote(s[:50]) + ".." + strconv.Quote(s[len(s)-50:])
	}
	return strconv.Quote(s)
}

// checkTokens holds a source to its tokens, the End left out.
func checkTokens(t *testing.T, s string, want ...lex.Token) {
	t.Helper()
	want = append(slices.Clone(want), lex.Token{Kind: lex.End, At: len(s)})
	if got, ok := lex.Tokens(s); !ok || !slices.Equal(got, want) {
		t.Errorf("Tokens(%s) = %s, %v, not %s", short(s), told(got), ok, told(want))
	}
}

// checkNone holds a source to having no tokens.
func checkNone(t *testing.T, s string) {
	t.Helper()
	if got, ok := lex.Tokens(s); ok || len(got) != 0 {
		t.Errorf("Tokens(%s) = %s, %v, not false", short(s), told(got), ok)
	}
}

// checkModel holds a source to the model's tokens.
func checkModel(t *testing.T, s string) {
	t.Helper()
	want, there := tokensModel(s)
	if got, ok := lex.Tokens(s); ok != there || !slices.Equal(got, want) {
		t.Errorf("Tokens(%s) = %s, %v, not %s, %v", short(s), told(got), ok, told(want), there)
	}
}

// eachOf calls with every text of up to so many of the bits.
func eachOf(bits []string, most int, call func(string)) {
	call("")
	row := []string{""}
	for range most {
		var next []string
		for _, s := range row {
			for _, b := range bits {
				next = append(next, s+b)
				call(s + b)
			}
		}
		row = next
	}
}

// someOf is a text at random, of up to so many of the bits.
func someOf(r *rand.Rand, bits []string, most int) string {
	var out strings.Builder
	for range r.Intn(most + 1) {
		out.WriteString(bits[r.Intn(len(bits))])
	}
	return out.String()
}

// signs are a string's bytes, each as a text.
func signs(s string) []string { return strings.Split(s, "") }
