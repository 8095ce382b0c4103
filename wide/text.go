package wide

import (
	"strconv"
	"strings"
)

// Text is its decimal digits, without noughts ahead.
func (a U) Text() string {
	_, high, low, _ := DivWord(U{}, a, wordTen[mostWordTen])
	s := strconv.FormatUint(low, 10)
	if high.Zero() {
		return s
	}
	return high.Text() + strings.Repeat("0", mostWordTen-len(s)) + s
}

// Read is the number of the decimal digits s; false, if s is empty, something else stands in it, or it is no number of 128 bits.
func Read(s string) (U, bool) {
	if s == "" {
		return U{}, false
	}
	var a U
	for _, r := range s {
		// A byte that is no UTF-8 comes as U+FFFD, which is no digit either.
		if r < '0' || r > '9' {
			return U{}, false
		}
		over, product := MulWord(a, 10)
		sum, carry := Add(product, Of(uint64(r-'0')))
		if over != 0 || carry != 0 {
			return U{}, false
		}
		a = sum
	}
	return a, true
}
