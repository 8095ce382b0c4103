package lex

import (
	"strings"

	"casuist/numeral"
	"casuist/runes"
)

// signs are the symbols of one sign, all of them of one byte.
const signs = "()[]{},:.+-*/=<>'"

// first is the token that a text begins with, its place left out, and of how many bytes it is: of none, if no token stands there. The text has one rune at least.
func first(s string) (Token, int) {
	if n := word(s); n > 0 {
		return Token{Kind: Word, Text: s[:n]}, n
	}
	// A number comes ahead of a symbol: it may begin with a point.
	if n := number(s); n > 0 {
		return Token{Kind: Number, Text: s[:n]}, n
	}
	if text, n := quoted(s); n > 0 {
		return Token{Kind: String, Text: text}, n
	}
	if text, n := temporal(s); n > 0 {
		return Token{Kind: Temporal, Text: text}, n
	}
	n := symbol(s)
	return Token{Kind: Symbol, Text: s[:n]}, n
}

// word is of how many bytes the word is that a text begins with.
func word(s string) int {
	letters := lead(s, runes.Letter)
	if letters == 0 {
		return 0
	}
	return letters + lead(s[letters:], inWord)
}

func inWord(r rune) bool { return runes.Letter(r) || runes.Digit(r) }

// number is of how many bytes the number is that a text begins with.
func number(s string) int {
	n := digits(s)
	// How many digits may stand behind an E is numeral's to tell.
	if all := n + power(s[n:]); numeral.Shape(s[:all]) {
		return all
	}
	return n
}

// digits is of how many bytes a number without its power is: digits, a point with digits behind it, or both.
func digits(s string) int {
	whole := lead(s, runes.Digit)
	// If no point is there, no digit is either: all of them are in whole.
	places := lead(strings.TrimPrefix(s[whole:], "."), runes.Digit)
	if places == 0 {
		return whole
	}
	return whole + len(".") + places
}

// power is of how many bytes an E is, with a sign or none and all digits behind it, however many.
func power(s string) int {
	rest, ok := strings.CutPrefix(s, "E")
	if !ok {
		return 0
	}
	if strings.HasPrefix(rest, "+") || strings.HasPrefix(rest, "-") {
		rest = rest[1:]
	}
	return len(s) - len(rest) + lead(rest, runes.Digit)
}

// temporal is what the string of a temporal stands for that a text begins with, and of how many bytes that is.
func temporal(s string) (string, int) {
	rest, ok := strings.CutPrefix(s, "@")
	if !ok {
		return "", 0
	}
	text, n := quoted(rest)
	if n == 0 {
		return "", 0
	}
	return text, len("@") + n
}

// symbol is of how many bytes the symbol is that a text begins with: those of two signs come first.
func symbol(s string) int {
	switch s[:min(2, len(s))] {
	case "..", "**", "<=", ">=", "!=", "->":
		return 2
	}
	if strings.IndexByte(signs, s[0]) < 0 {
		return 0
	}
	return 1
}
