package runes_test

import (
	"math"
	"math/rand"
	"testing"

	"casuist/runes"
)

// Whatever is given, each call ends, and what stands beside a false is zero.
func TestW1AnyBytes(t *testing.T) {
	r := rand.New(rand.NewSource(1))
	bytes := func(most int) string {
		out := make([]byte, r.Intn(most+1))
		for i := range out {
			out[i] = byte(r.Intn(256))
		}
		return string(out)
	}
	numbers := []int{math.MinInt, math.MinInt + 1, -1 << 31, -2, -1, 0, 1, 2, 1 << 31, math.MaxInt - 1, math.MaxInt}
	for range 20000 {
		s, part, by := bytes(20), bytes(2), bytes(4)
		from, n := numbers[r.Intn(len(numbers))], numbers[r.Intn(len(numbers))]
		checkValid(t, s, validModel(s))
		checkLength(t, s, len(runesOf(s)))
		if got, ok := runes.Sub(s, from, n); !ok && got != "" {
			t.Errorf("Sub(%q, %d, %d) = %q beside a false", s, from, n, got)
		}
		want, ok := subModel(s, from, n)
		checkSub(t, s, from, n, string(want), ok)
		checkCases(t, s, string(upperModel(s)), string(lowerModel(s)))
		checkReverse(t, s, reverseModel(s))
		checkParts(t, s, part, by)
		sign := rune(r.Uint32())
		runes.Letter(sign)
		runes.Digit(sign)
		runes.Space(sign)
	}
}
