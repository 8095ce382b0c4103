package runes_test

import (
	"math"
	"math/rand"
	"slices"
	"strings"
	"testing"

	"casuist/runes"
)

func checkLength(t *testing.T, s string, want int) {
	t.Helper()
	if got := runes.Length(s); got != want {
		t.Errorf("Length(%q) = %d, not %d", s, got, want)
	}
}

func checkValid(t *testing.T, s string, want bool) {
	t.Helper()
	if got := runes.Valid(s); got != want {
		t.Errorf("Valid(%q) = %v", s, got)
	}
}

// checkSub holds Sub to a text: to its bytes if s is UTF-8, else to its runes alone, as the chapter says no more.
func checkSub(t *testing.T, s string, from, n int, want string, ok bool) {
	t.Helper()
	got, there := runes.Sub(s, from, n)
	if there != ok || !slices.Equal([]rune(got), []rune(want)) || validModel(s) && got != want {
		t.Errorf("Sub(%q, %d, %d) = %q, %v, not %q, %v", s, from, n, got, there, want, ok)
	}
}

func TestP151Valid(t *testing.T) {
	for _, s := range []string{"", "a", "\x00", "\x7f", "\u0080", "\u00e9", "\u07ff", "\u0800", "\u20ac", "\ud7ff", "\ue000", "\ufffd", "\uffff", "\U00010000", "\U0001f600", "\U0010ffff", "a\u00e9\u20ac\U0001f600", "\ufffd\ufffd"} {
		checkValid(t, s, true)
	}
	for _, s := range []string{"\x80", "\xbf", "\xc0\x80", "\xc1\xbf", "\xc3", "\xc3a", "\xe0\x80\x80", "\xe0\x9f\xbf", "\xe2\x82", "\xed\xa0\x80", "\xed\xbf\xbf", "\xf0\x8f\xbf\xbf", "\xf0\x9f\x98", "\xf4\x90\x80\x80", "\xf5\x80\x80\x80", "\xf8\x88\x80\x80\x80", "\xfe", "\xff", "a\xff", "\xffa", "\ufffd\xff", "\u20ac\xe2\x82", "aaaaaaaaaaaaaaaaaaaaaaaa\x80", "aaaaaaaaaaaaaaaa\xc3aaaaaaaaaaaaaaaa"} {
		checkValid(t, s, false)
	}
}

func TestP151Length(t *testing.T) {
	for _, x := range []struct {
		s    string
		want int
	}{
		{"", 0}, {"a", 1}, {"foobar", 6}, {"\x00", 1}, {"\u00e9", 1}, {"\u20ac", 1}, {"\U0001f600", 1}, {"a\u00e9\u20ac\U0001f600", 4}, {"e\u0301", 2}, {"\ufffd", 1}, {"\ufffd\ufffd", 2}, {"\r\n", 2},
		{"\xff", 1}, {"\xff\xff", 2}, {"a\xff", 2}, {"\xffa", 2}, {"a\xffb", 3}, {"\ufffd\xff", 2},
		// What is cut within a rune has as many as it has bytes; so has what is too long, too great or half of a pair.
		{"\xc3", 1}, {"\xe2\x82", 2}, {"\xf0\x9f\x98", 3}, {"\u20ac\xe2\x82", 3}, {"\xe2\x82a", 3}, {"\xe2\x82\u20ac", 3}, {"\xc0\x80", 2}, {"\xe0\x9f\xbf", 3}, {"\xed\xa0\x80", 3}, {"\xf4\x90\x80\x80", 4}, {"\x80\x80", 2}, {"\u00e9\x80", 2},
	} {
		checkLength(t, x.s, x.want)
	}
	checkLength(t, strings.Repeat("a\u00e9\u20ac\U0001f600\xff", 1<<16), 5<<16)
}

func TestP151EachText(t *testing.T) {
	for _, s := range texts() {
		checkValid(t, s, validModel(s))
		checkLength(t, s, len(runesOf(s)))
	}
	r := rand.New(rand.NewSource(1510))
	good := 0
	for range 20000 {
		s := someText(r, 12)
		checkValid(t, s, validModel(s))
		checkLength(t, s, len(runesOf(s)))
		if validModel(s) && s != "" {
			good++
		}
	}
	if good < 5000 || good > 15000 {
		t.Error("the texts tell little:", good)
	}
}

func TestP151Sub(t *testing.T) {
	const four = "a\u00e9\u20ac\U0001f600"
	for _, x := range []struct {
		s       string
		from, n int
		want    string
		ok      bool
	}{
		{"foobar", 3, -1, "obar", true}, {"foobar", 3, 3, "oba", true}, {"foobar", 3, 2, "ob", true}, {"foobar", 3, 4, "obar", true}, {"foobar", 3, 5, "obar", true}, {"foobar", -2, 1, "a", true}, {"foobar", -2, -1, "ar", true}, {"foobar", -2, 2, "ar", true}, {"foobar", -2, 3, "ar", true},
		{"foobar", 1, 6, "foobar", true}, {"foobar", 1, 5, "fooba", true}, {"foobar", 1, 7, "foobar", true}, {"foobar", 1, -1, "foobar", true}, {"foobar", 1, 1, "f", true}, {"foobar", 1, 0, "", true},
		{"foobar", 6, -1, "r", true}, {"foobar", 6, 0, "", true}, {"foobar", 6, 1, "r", true}, {"foobar", 6, 2, "r", true}, {"foobar", 7, -1, "", false}, {"foobar", 7, 0, "", false}, {"foobar", 7, 1, "", false}, {"foobar", 8, 1, "", false},
		{"foobar", 0, -1, "", false}, {"foobar", 0, 0, "", false}, {"foobar", 0, 6, "", false},
		{"foobar", -1, -1, "r", true}, {"foobar", -1, 0, "", true}, {"foobar", -1, 1, "r", true}, {"foobar", -6, -1, "foobar", true}, {"foobar", -6, 1, "f", true}, {"foobar", -6, 5, "fooba", true}, {"foobar", -7, -1, "", false}, {"foobar", -7, 0, "", false}, {"foobar", -8, 1, "", false},
		{"foobar", 2, -2, "oobar", true}, {"foobar", 2, math.MinInt, "oobar", true}, {"foobar", 2, math.MaxInt, "oobar", true}, {"foobar", 6, math.MaxInt, "r", true}, {"foobar", 1, math.MaxInt, "foobar", true}, {"foobar", -6, math.MaxInt, "foobar", true},
		{"foobar", math.MaxInt, 1, "", false}, {"foobar", math.MaxInt, math.MaxInt, "", false}, {"foobar", math.MinInt, 1, "", false}, {"foobar", math.MinInt, -1, "", false}, {"foobar", math.MinInt + 1, -1, "", false}, {"foobar", math.MinInt, math.MinInt, "", false}, {"foobar", math.MaxInt, math.MinInt, "", false},
		{"", 0, 0, "", false}, {"", 1, 0, "", false}, {"", 1, 1, "", false}, {"", -1, -1, "", false}, {"", -1, 0, "", false}, {"", math.MinInt, 0, "", false}, {"", math.MaxInt, -1, "", false},
		{"a", 0, 1, "", false}, {"a", 1, 1, "a", true}, {"a", 1, 0, "", true}, {"a", -1, 1, "a", true}, {"a", 2, 1, "", false}, {"a", -2, 1, "", false},
		{"ab", -2, 9, "ab", true}, {"ab", 1, 0, "", true},
		{four, 1, 1, "a", true}, {four, 2, 1, "\u00e9", true}, {four, 3, 1, "\u20ac", true}, {four, 4, 1, "\U0001f600", true}, {four, 5, 1, "", false}, {four, 10, 1, "", false}, {four, 2, 2, "\u00e9\u20ac", true}, {four, 2, -1, "\u00e9\u20ac\U0001f600", true},
		{four, -1, 1, "\U0001f600", true}, {four, -2, 1, "\u20ac", true}, {four, -3, 1, "\u00e9", true}, {four, -4, 1, "a", true}, {four, -4, -1, four, true}, {four, -5, 1, "", false}, {four, -10, 1, "", false},
		{"\u00e9\u20aca", 2, 1, "\u20ac", true}, {"\ufffda\ufffd", 3, 1, "\ufffd", true}, {"\ufffda\ufffd", 1, 2, "\ufffda", true}, {"e\u0301", 2, 1, "\u0301", true}, {"a\x00b", 2, 2, "\x00b", true},
	} {
		checkSub(t, x.s, x.from, x.n, x.want, x.ok)
	}
}

// Of a text that is not UTF-8 the chapter promises no text; the places are there all the same.
func TestP151SubOfOthers(t *testing.T) {
	checkSub(t, "\xff", 1, 1, "\ufffd", true)
	checkSub(t, "\xff", 2, 1, "", false)
	checkSub(t, "\xffa", 2, 1, "a", true)
	checkSub(t, "\xe2\x82a", 3, 1, "a", true)
	checkSub(t, "\xe2\x82a", -1, 1, "a", true)
	checkSub(t, "\xe2\x82a", -4, 1, "", false)
}

func TestP151SubEachPlace(t *testing.T) {
	some := append(texts()[:80:80], strings.Repeat("a\u00e9\u20ac\U0001f600", 5))
	numbers := []int{math.MinInt, math.MinInt + 1, math.MinInt + 5, -1 << 32, 1 << 32, math.MaxInt - 5, math.MaxInt - 1, math.MaxInt}
	for i := -25; i <= 25; i++ {
		numbers = append(numbers, i)
	}
	for _, s := range some {
		for _, from := range numbers {
			for _, n := range numbers {
				want, ok := subModel(s, from, n)
				checkSub(t, s, from, n, string(want), ok)
			}
		}
	}
}

func TestP151SubByTheWords(t *testing.T) {
	r := rand.New(rand.NewSource(1511))
	there := 0
	for range 40000 {
		s := someText(r, 12)
		from, n := r.Intn(30)-15, r.Intn(20)-3
		want, ok := subModel(s, from, n)
		checkSub(t, s, from, n, string(want), ok)
		if len(want) > 1 && len(want) < len(runesOf(s)) {
			there++
		}
	}
	if there < 5000 {
		t.Error("the texts tell little:", there)
	}
}

func TestP151SubOfLongOnes(t *testing.T) {
	long := strings.Repeat("a\u20ac", 1<<20)
	checkSub(t, long, 1<<21, -1, "\u20ac", true)
	checkSub(t, long, -1<<21, 1, "a", true)
	checkSub(t, long, 1<<21+1, -1, "", false)
	checkSub(t, long, -1<<21-1, -1, "", false)
	checkSub(t, long, 1, -1, long, true)
	checkSub(t, long, 3, 1<<21-3, long[4:len(long)-3], true)
}
