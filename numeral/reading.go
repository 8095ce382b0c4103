package numeral

import (
	"casuist/dec"
	"casuist/wide"
)

const (
	// enough is how many digits of a coefficient are kept: any so many are a number of 128 bits, and they are more than a number has, so that of the digits behind them it counts alone whether they are noughts.
	enough = wide.MostTen
	// mostPowerDigits is how many digits may stand behind the E.
	mostPowerDigits = 6
)

// place is where in a number's text one stands.
type place int

const (
	ahead place = iota
	inWhole
	atPoint
	inPlaces
	atE
	atSign
	inPower
)

// reading is what a number's text has told up to a place.
type reading struct {
	at          place
	coef        wide.U // the first digits, without noughts ahead
	kept        int    // how many digits coef has
	dropped     int    // how many came behind these
	more        bool   // not all of those are noughts
	places      int
	power       int // the size of what stands behind the E
	powerDigits int
	powerBelow  bool
}

// readThrough reads a whole text; false, if it has not a number's form.
func readThrough(s string) (reading, bool) {
	var n reading
	for _, r := range s {
		// A byte that is no UTF-8 comes as U+FFFD, which has no place either.
		if !n.take(r) {
			return reading{}, false
		}
	}
	return n, n.at == inWhole || n.at == inPlaces || n.at == inPower
}

// take reads one more rune; false, if that may not come here.
func (n *reading) take(r rune) bool {
	was := n.at
	switch {
	case r >= '0' && r <= '9':
		return n.takeDigit(int(r - '0'))
	case r == '.':
		n.at = atPoint
		return was == ahead || was == inWhole
	case r == 'E':
		n.at = atE
		return was == inWhole || was == inPlaces
	case r == '+' || r == '-':
		n.at, n.powerBelow = atSign, r == '-'
		return was == atE
	}
	return false
}

// takeDigit reads one more digit: it may come anywhere, but not as the seventh of the power.
func (n *reading) takeDigit(d int) bool {
	switch n.at {
	case ahead, inWhole:
		n.at = inWhole
		n.takeCoefDigit(d)
		return true
	case atPoint, inPlaces:
		n.at = inPlaces
		n.places++
		n.takeCoefDigit(d)
		return true
	}
	n.at = inPower
	n.power = 10*n.power + d
	n.powerDigits++
	return n.powerDigits <= mostPowerDigits
}

// takeCoefDigit reads one more digit of the coefficient.
func (n *reading) takeCoefDigit(d int) {
	if n.kept == enough {
		n.dropped++
		n.more = n.more || d != 0
		return
	}
	_, n.coef = wide.MulWord(n.coef, 10)
	n.coef, _ = wide.Add(n.coef, wide.Of(uint64(d)))
	if !n.coef.Zero() {
		n.kept++
	}
}

// size is the number that was read, not rounded yet.
func (n *reading) size() dec.Wide {
	exp := n.power
	if n.powerBelow {
		exp = -exp
	}
	return dec.Wide{Lo: n.coef, Exp: exp - n.places + n.dropped, More: n.more}
}
