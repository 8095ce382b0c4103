package name_test

import (
	"math/rand"
	"regexp"
	"slices"
	"strconv"
	"strings"
	"testing"
	"unicode/utf8"

	"casuist/lex"
	"casuist/name"
)

// What the chapter's words say, done plainly by lists and regexp, for the tests to hold the package against.

const keywords = "null true false if then else for in return some every satisfies and or between instance of function"

const wordForm = `[A-Za-z_\x{80}-\x{10ffff}][A-Za-z_\x{80}-\x{10ffff}0-9]*`

var (
	digitsModel = regexp.MustCompile(`\A[0-9]+\z`)
	signModel   = regexp.MustCompile(`\A[-+*/.']\z`)
	// A name as it is told: from a piece to the next one goes a space, where no sign stands on either side.
	nameForm = regexp.MustCompile(`\A` + wordForm + `(?:(?: |[-+*/.']+)(?:` + wordForm + `|[0-9]+))*[-+*/.']*\z`)
	// Signs next to one another, or to a digit, that are read as something else.
	otherForm = regexp.MustCompile(`\*\*|\.\.|\.[0-9]|//|/\*`)
	pieceForm = regexp.MustCompile(wordForm + `|[0-9]+|[-+*/.']`)
)

func keywordModel(s string) bool { return slices.Contains(strings.Fields(keywords), s) }

func beginsModel(t lex.Token) bool { return t.Kind == lex.Word && !keywordModel(t.Text) }

func wordLike(t lex.Token) bool { return t.Kind == lex.Word || t.Kind == lex.Number }

func pieceModel(t lex.Token) bool {
	return t.Kind == lex.Word || t.Kind == lex.Number && digitsModel.MatchString(t.Text) || t.Kind == lex.Symbol && signModel.MatchString(t.Text)
}

func joinModel(ts []lex.Token) string {
	out := ""
	for i, t := range ts {
		if i > 0 && wordLike(ts[i-1]) && wordLike(t) {
			out += " "
		}
		out += t.Text
	}
	return out
}

// readModel finds a name's pieces in its text alone, without its tokens.
func readModel(s string) ([]lex.Token, bool) {
	if !utf8.ValidString(s) || !nameForm.MatchString(s) || otherForm.MatchString(s) {
		return nil, false
	}
	var out []lex.Token
	for _, at := range pieceForm.FindAllStringIndex(s, -1) {
		text := s[at[0]:at[1]]
		kind := lex.Word
		if digitsModel.MatchString(text) {
			kind = lex.Number
		} else if signModel.MatchString(text) {
			kind = lex.Symbol
		}
		out = append(out, lex.Token{Kind: kind, Text: text, At: at[0]})
	}
	return out, !keywordModel(out[0].Text)
}

func localModel(s string) bool {
	ts, ok := readModel(s)
	return ok && !slices.ContainsFunc(ts, func(t lex.Token) bool { return keywordModel(t.Text) })
}

func plainModel(s string) bool {
	ts, _ := readModel(s)
	return localModel(s) && !slices.ContainsFunc(ts, func(t lex.Token) bool { return t.Kind == lex.Symbol })
}

// namesModel is a scope's names, with more of them.
func namesModel(names, more []string) []string {
	out := slices.Clone(names)
	for _, n := range more {
		if _, ok := readModel(n); ok && !slices.Contains(out, n) {
			out = append(out, n)
		}
	}
	return out
}

// countModel is how many tokens stand at a place that are so.
func countModel(ts []lex.Token, at int, are func(lex.Token) bool) int {
	n := 0
	for at+n < len(ts) && are(ts[at+n]) {
		n++
	}
	return n
}

func startsModel(ts []lex.Token, at int) bool {
	return 0 <= at && at < len(ts) && beginsModel(ts[at])
}

// matchModel tries all counts of pieces, from the greatest on.
func matchModel(names []string, ts []lex.Token, at int) (string, int) {
	if !startsModel(ts, at) {
		return "", 0
	}
	for n := countModel(ts, at, pieceModel); n >= 2; n-- {
		if all := joinModel(ts[at : at+n]); slices.Contains(names, all) {
			return all, n
		}
	}
	return ts[at].Text, 1
}

func givenModel(ts []lex.Token, at int) (string, int) {
	if !startsModel(ts, at) {
		return "", 0
	}
	n := countModel(ts, at, func(t lex.Token) bool {
		return pieceModel(t) && !(t.Kind == lex.Word && keywordModel(t.Text))
	})
	return joinModel(ts[at : at+n]), n
}

func runModel(ts []lex.Token, at int) (string, int) {
	if !startsModel(ts, at) {
		return "", 0
	}
	n := countModel(ts, at, func(t lex.Token) bool { return beginsModel(t) || t.Kind == lex.Number && pieceModel(t) })
	return joinModel(ts[at : at+n]), n
}

// Tokens, made shortly.

func word(text string) lex.Token { return lex.Token{Kind: lex.Word, Text: text} }

func number(text string) lex.Token { return lex.Token{Kind: lex.Number, Text: text} }

func symbol(text string) lex.Token { return lex.Token{Kind: lex.Symbol, Text: text} }

// tokens are a source's, with the End.
func tokens(t *testing.T, s string) []lex.Token {
	t.Helper()
	ts, ok := lex.Tokens(s)
	if !ok {
		t.Fatalf("%s has no tokens", short(s))
	}
	return ts
}

// told is tokens as a text, for what a test complains of.
func told(ts []lex.Token) string {
	var out []string
	for _, t := range ts[:min(len(ts), 20)] {
		out = append(out, strconv.Itoa(int(t.Kind))+" "+short(t.Text))
	}
	if len(ts) > 20 {
		out = append(out, "and so on to "+strconv.Itoa(len(ts)))
	}
	return "[" + strings.Join(out, ", ") + "]"
}

// short is a text for what a test complains of.
func short(s string) string {
	if len(s) > 120 {
		return strconv.Quote(s[:50]) + ".." + strconv.Quote(s[len(s)-50:])
	}
	return strconv.Quote(s)
}

func shorts(names []string) string {
	var out []string
	for _, n := range names[:min(len(names), 20)] {
		out = append(out, short(n))
	}
	return "[" + strings.Join(out, ", ") + "], " + strconv.Itoa(len(names)) + " of them"
}

// checkText holds Keyword, Read, Plain and Local of a text to the model.
func checkText(t *testing.T, s string) {
	t.Helper()
	if got, want := name.Keyword(s), keywordModel(s); got != want {
		t.Errorf("Keyword(%s) = %v", short(s), got)
	}
	want, there := readModel(s)
	if !there {
		want = nil
	}
	if got, ok := name.Read(s); ok != there || !slices.Equal(got, want) {
		t.Errorf("Read(%s) = %s, %v, not %s, %v", short(s), told(got), ok, told(want), there)
	}
	if got, want := name.Plain(s), plainModel(s); got != want {
		t.Errorf("Plain(%s) = %v", short(s), got)
	}
	if got, want := name.Local(s), localModel(s); got != want {
		t.Errorf("Local(%s) = %v", short(s), got)
	}
}

// checkScope holds a scope to its names, in their order.
func checkScope(t *testing.T, s name.Scope, want ...string) {
	t.Helper()
	if got := s.Names(); !slices.Equal(got, want) {
		t.Errorf("the names are %s, not %s", shorts(got), shorts(want))
	}
	for _, n := range want {
		if !s.Has(n) {
			t.Errorf("Has(%s) is false", short(n))
		}
	}
}

// checkAt holds Match, Given and Run at a place to the model.
func checkAt(t *testing.T, s name.Scope, names []string, ts []lex.Token, at int) {
	t.Helper()
	want, most := matchModel(names, ts, at)
	if got, n := s.Match(ts, at); got != want || n != most {
		t.Errorf("of %s: Match(%s, %d) = %s, %d, not %s, %d", shorts(names), told(ts), at, short(got), n, short(want), most)
	}
	want, most = givenModel(ts, at)
	if got, n := name.Given(ts, at); got != want || n != most {
		t.Errorf("Given(%s, %d) = %s, %d, not %s, %d", told(ts), at, short(got), n, short(want), most)
	}
	want, most = runModel(ts, at)
	if got, n := name.Run(ts, at); got != want || n != most {
		t.Errorf("Run(%s, %d) = %s, %d, not %s, %d", told(ts), at, short(got), n, short(want), most)
	}
}

// checkPlaces holds each place of some tokens, and one at either side, to the model.
func checkPlaces(t *testing.T, names []string, ts []lex.Token) {
	t.Helper()
	s := name.Of(names...)
	for at := -1; at <= len(ts)+1; at++ {
		checkAt(t, s, names, ts, at)
	}
}

// eachOf calls with every row of up to so many of the bits.
func eachOf[T any](bits []T, most int, call func([]T)) {
	rows := [][]T{nil}
	call(nil)
	for range most {
		var next [][]T
		for _, row := range rows {
			for _, b := range bits {
				longer := append(slices.Clone(row), b)
				next = append(next, longer)
				call(longer)
			}
		}
		rows = next
	}
}

// someOf is a row at random, of up to so many of the bits.
func someOf[T any](r *rand.Rand, bits []T, most int) []T {
	var out []T
	for range r.Intn(most + 1) {
		out = append(out, bits[r.Intn(len(bits))])
	}
	return out
}
