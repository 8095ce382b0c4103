package lex

import (
	"strconv"
	"strings"
	"unicode/utf8"
)

// quoted is what the string stands for that a text begins with, and of how many bytes that is: of none, if no string stands there.
func quoted(s string) (string, int) {
	rest, ok := strings.CutPrefix(s, `"`)
	if !ok {
		return "", 0
	}
	var out strings.Builder
	for {
		n := lead(rest, itself)
		out.WriteString(rest[:n])
		rest = rest[n:]
		if strings.HasPrefix(rest, `"`) {
			return out.String(), len(s) - len(rest) + len(`"`)
		}
		// The text's end, a line's end and a return are no escapes either.
		r, n := escape(rest)
		if n == 0 {
			return "", 0
		}
		out.WriteRune(r)
		rest = rest[n:]
	}
}

// itself tells whether a rune stands for itself in a string.
func itself(r rune) bool { return r != '"' && r != '\\' && r != '\n' && r != '\r' }

// escape is what the escape stands for that a text begins with, and of how many bytes that is: of none, if no escape stands there.
func escape(s string) (rune, int) {
	rest, ok := strings.CutPrefix(s, `\`)
	if !ok || rest == "" {
		return 0, 0
	}
	switch rest[0] {
	case 'n':
		return '\n', 2
	case 'r':
		return '\r', 2
	case 't':
		return '\t', 2
	case '"', '\\', '\'':
		return rune(rest[0]), 2
	case 'u':
		return coded(rest[1:], 4)
	case 'U':
		return coded(rest[1:], 6)
	}
	return 0, 0
}

// coded is the rune whose number stands in so many hexadecimal digits at a text's beginning, and of how many bytes its escape is.
func coded(s string, digits int) (rune, int) {
	if len(s) < digits {
		return 0, 0
	}
	// Of a base that is told, no sign and no _ is taken.
	n, err := strconv.ParseUint(s[:digits], 16, 32)
	if err != nil || !utf8.ValidRune(rune(n)) {
		return 0, 0
	}
	return rune(n), len(`\u`) + digits
}
