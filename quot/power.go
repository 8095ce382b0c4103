package quot

import (
	"casuist/api"
	"casuist/dec"
)

// highestBit is above all those of the greatest power there may be; it does no harm there, as 1 times 1 is 1.
const highestBit = 30

// Power is a to the n, by squaring from n's highest bit on, each product rounded; of n below 0 it is 1 by that; false, if n may not be, something is too great, or that is 0.
func Power(a dec.Dec, n int) (dec.Dec, bool) {
	if n < -api.MaxPower || n > api.MaxPower {
		return dec.Dec{}, false
	}
	if n >= 0 {
		return power(a, n)
	}
	p, ok := power(a, -n)
	if !ok {
		return dec.Dec{}, false
	}
	return Div(dec.Int(1), p)
}

// power is a to the n, for n from 0 on.
func power(a dec.Dec, n int) (dec.Dec, bool) {
	p, ok := dec.Int(1), true
	for bit := highestBit; bit >= 0 && ok; bit-- {
		p, ok = dec.Mul(p, p)
		if ok && n>>bit&1 == 1 {
			p, ok = dec.Mul(p, a)
		}
	}
	return p, ok
}
