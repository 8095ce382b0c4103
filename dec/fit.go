package dec

import (
	"casuist/api"
	"casuist/wide"
)

// Mode is how a number between two others is rounded.
type Mode int

const (
	HalfEven Mode = 1 + iota
	HalfUp        // away from 0
	HalfDown      // towards 0
	Up            // away from 0
	Down          // towards 0
	Floor
	Ceiling
)

// Wide is a number that is not rounded yet: its coefficient has 256 bits; More: it is a little more than that.
type Wide struct {
	Neg    bool
	Hi, Lo wide.U
	Exp    int
	More   bool
}

const (
	mostWideDigits = 78 // of a number of 256 bits
	wordNoughts    = 19 // of the greatest power of ten that is a word
)

// Cut is a number without its last n digits, rounded.
func Cut(w Wide, n int, m Mode) Wide {
	n = max(n, 0)
	hi, lo, left := drop(w, n)
	if left.goesUp(m, w.Neg, lo.Lo%2 == 1) {
		hi, lo, _ = wide.Add2(hi, lo, wide.U{}, wide.Of(1))
	}
	return Wide{Neg: w.Neg, Hi: hi, Lo: lo, Exp: w.Exp + n}
}

// remnant is what is dropped: the first digit of it, and whether there is anything more than that digit and noughts.
type remnant struct {
	digit uint64
	more  bool
}

func (r remnant) nothing() bool { return r.digit == 0 && !r.more }

// goesUp tells whether the size of a number, odd or not, is to be one more, where this was dropped of it.
func (r remnant) goesUp(m Mode, below, odd bool) bool {
	if r.nothing() {
		return false
	}
	switch m {
	case HalfEven, HalfUp, HalfDown:
		if r.digit == 5 && !r.more {
			return m == HalfUp || m == HalfEven && odd
		}
		return r.digit >= 5
	case Up:
		return true
	case Floor:
		return below
	case Ceiling:
		return !below
	}
	return false
}

// drop is the coefficient without its last n digits, and what these were.
func drop(w Wide, n int) (wide.U, wide.U, remnant) {
	hi, lo, left := w.Hi, w.Lo, remnant{more: w.More}
	// Where no digit is left, the first one that is dropped is far below half of the step, however many more there are.
	n = min(n, mostWideDigits)
	for n > 1 {
		k := min(n-1, wordNoughts)
		power, _ := wide.Ten(k)
		var rest uint64
		hi, lo, rest, _ = wide.DivWord(hi, lo, power.Lo)
		left.more = left.more || rest != 0
		n -= k
	}
	if n == 1 {
		hi, lo, left.digit, _ = wide.DivWord(hi, lo, 10)
	}
	return hi, lo, left
}

// Fit is the number of 34 digits that is next to another one; false, if that is too great.
func Fit(w Wide, m Mode) (Dec, bool) {
	// From there on all but 0 is too great, and no sum below goes round.
	w.Exp = min(w.Exp, api.MaxExp+api.MaxDigits)
	w = Cut(w, surplus(w), m)
	d := Dec{Neg: w.Neg, Coef: w.Lo, Exp: w.Exp}
	if d.Zero() {
		return Dec{Exp: min(d.Exp, api.MaxExp)}, true
	}
	if beyond, _ := wide.Ten(api.MaxDigits); d.Coef == beyond {
		d.Coef, _ = wide.Ten(api.MaxDigits - 1)
		d.Exp++
	}
	if d.Exp <= api.MaxExp {
		return d, true
	}
	d = layNoughts(d)
	if d.Exp > api.MaxExp {
		return Dec{}, false
	}
	return d, true
}

// surplus is how many of the last digits a number of 34 digits, with an exponent that may be, has no room for.
func surplus(w Wide) int {
	n := max(wide.Digits(w.Hi, w.Lo)-api.MaxDigits, 0)
	if w.Exp < api.MinExp {
		n = max(n, api.MinExp-w.Exp)
	}
	return n
}

// layNoughts is the same size with the lowest exponent that 34 digits allow.
func layNoughts(d Dec) Dec {
	n := api.MaxDigits - wide.Digits(wide.U{}, d.Coef)
	power, _ := wide.Ten(n)
	_, d.Coef = wide.Mul(d.Coef, power)
	d.Exp -= n
	return d
}
