package runes

// Letter tells whether a rune may begin a word: it is one of a to z, A to Z, _, or beyond ASCII.
func Letter(r rune) bool {
	return 'a' <= r && r <= 'z' || 'A' <= r && r <= 'Z' || r == '_' || r >= 128
}

// Digit tells whether a rune is one of 0 to 9: no other script's are.
func Digit(r rune) bool { return '0' <= r && r <= '9' }

// Space tells whether a rune parts words: a space, a tab, a line's end or a return.
func Space(r rune) bool { return r == ' ' || r == '\t' || r == '\n' || r == '\r' }
