package runes_test

import (
	"math/rand"
	"slices"
	"strings"
	"testing"
	"unicode/utf8"

	"casuist/runes"
)

// What the chapter's words say, done plainly, for the tests to hold the package against.

// replacement is the rune that stands for each byte that begins none.
const replacement = rune(0xfffd)

// runesOf is a text's runes, each found by the signs that its bytes begin with.
func runesOf(s string) []rune {
	var out []rune
	for len(s) > 0 {
		r, size := firstOf(s)
		out = append(out, r)
		s = s[size:]
	}
	return out
}

// firstOf is a text's first rune, and of how many bytes it is.
func firstOf(s string) (rune, int) {
	size, r, least := 0, rune(0), rune(0)
	switch c := s[0]; {
	case c < 0x80:
		return rune(c), 1
	case c>>5 == 0b110:
		size, r, least = 2, rune(c&0x1f), 0x80
	case c>>4 == 0b1110:
		size, r, least = 3, rune(c&0x0f), 0x800
	case c>>3 == 0b11110:
		size, r, least = 4, rune(c&0x07), 0x10000
	default:
		return replacement, 1
	}
	if len(s) < size {
		return replacement, 1
	}
	for _, c := range []byte(s[1:size]) {
		if c>>6 != 0b10 {
			return replacement, 1
		}
		r = r<<6 | rune(c&0x3f)
	}
	if r < least || r > 0x10ffff || 0xd800 <= r && r <= 0xdfff {
		return replacement, 1
	}
	return r, size
}

// bytesOf is a rune's bytes.
func bytesOf(r rune) string {
	low := func(shift int) byte { return 0x80 | byte(r>>shift)&0x3f }
	switch {
	case r < 0x80:
		return string([]byte{byte(r)})
	case r < 0x800:
		return string([]byte{0xc0 | byte(r>>6), low(0)})
	case r < 0x10000:
		return string([]byte{0xe0 | byte(r>>12), low(6), low(0)})
	}
	return string([]byte{0xf0 | byte(r>>18), low(12), low(6), low(0)})
}

func textOf(rs []rune) string {
	var out strings.Builder
	for _, r := range rs {
		out.WriteString(bytesOf(r))
	}
	return out.String()
}

func validModel(s string) bool { return textOf(runesOf(s)) == s }

// subModel goes through all places, each told from both ends.
func subModel(s string, from, n int) ([]rune, bool) {
	all := runesOf(s)
	for i := range all {
		if from == i+1 || from == i-len(all) {
			rest := all[i:]
			if n < 0 || n > len(rest) {
				n = len(rest)
			}
			return rest[:n], true
		}
	}
	return nil, false
}

func caseModel(s string, from, to string) []rune {
	out := runesOf(s)
	for i, r := range out {
		if at := strings.IndexByte(from, byte(r)); r < 128 && at >= 0 {
			out[i] = rune(to[at])
		}
	}
	return out
}

const (
	smalls = "abcdefghijklmnopqrstuvwxyz"
	greats = "ABCDEFGHIJKLMNOPQRSTUVWXYZ"
)

func upperModel(s string) []rune { return caseModel(s, smalls, greats) }

func lowerModel(s string) []rune { return caseModel(s, greats, smalls) }

func reverseModel(s string) string {
	out := ""
	for _, r := range runesOf(s) {
		out = bytesOf(r) + out
	}
	return out
}

// standsAt is the first place of a part in a text, from a place on; -1, if there is none.
func standsAt(s, part string, from int) int {
	for i := from; i+len(part) <= len(s); i++ {
		if s[i:i+len(part)] == part {
			return i
		}
	}
	return -1
}

func beforeModel(s, part string) string {
	if at := standsAt(s, part, 0); at >= 0 {
		return s[:at]
	}
	return ""
}

func afterModel(s, part string) string {
	if at := standsAt(s, part, 0); at >= 0 {
		return s[at+len(part):]
	}
	return ""
}

func splitModel(s, part string) []string {
	var out []string
	if part == "" {
		for _, r := range runesOf(s) {
			out = append(out, bytesOf(r))
		}
		return out
	}
	begin := 0
	for {
		at := standsAt(s, part, begin)
		if at < 0 {
			return append(out, s[begin:])
		}
		out = append(out, s[begin:at])
		begin = at + len(part)
	}
}

func replaceModel(s, part, by string) string {
	if part == "" {
		return s
	}
	out := ""
	for i, piece := range splitModel(s, part) {
		if i > 0 {
			out += by
		}
		out += piece
	}
	return out
}

// bits are texts of which the tests' texts are made: runes of each length, at the borders of the lengths, bytes that begin none, and runes that are cut.
func bits() []string {
	return []string{
		"a", "b", "z", "A", "B", "Z", "`", "{", "@", "[", "_", ",", " ", "0", "\x00", "\x7f",
		"\u0080", "\u00e9", "\u00c9", "\u07ff", "\u0800", "\u20ac", "\ud7ff", "\ue000", "\ufffd", "\uffff", "\U00010000", "\U0001f600", "\U0010ffff", "e\u0301",
		"\x80", "\xbf", "\xc0", "\xc3", "\xa9", "\xff", "\xfe", "\xe2", "\xe2\x82", "\x82\xac", "\xf0\x9f", "\xf0\x9f\x98", "\x98\x80",
		"\xc0\x80", "\xc1\xbf", "\xe0\x9f\xbf", "\xed\xa0\x80", "\xed\xbf\xbf", "\xf0\x8f\xbf\xbf", "\xf4\x90\x80\x80", "\xf5\x80\x80\x80", "\xc3a", "\xe2\x82a",
	}
}

// texts are bits alone, twice and two and two, and some longer ones.
func texts() []string {
	out := []string{
		"", "foobar", "order date", "a,,b", ",", ",,", ",a,", "aaa", "aaaa", "abab", "ababab", "a\u00e9\u20ac\U0001f600", "\U0001f600\u20ac\u00e9a",
		"\xff\xff\xff", "a\xffb\xfec", "\u00e9\xc3", "\u20ac\xe2\x82", "\ufffd\xff\ufffd", "\xef\xbf\xbd", "\xef\xbf", smalls + greats,
	}
	out = append(out, bits()...)
	for _, x := range bits() {
		for _, y := range bits() {
			out = append(out, x+y)
		}
	}
	return out
}

// someText is a text at random, of few bits or of all.
func someText(r *rand.Rand, most int) string {
	from := bits()
	if few := r.Intn(3); few == 0 {
		from = []string{"a", "b", "ab", "\u00e9"}
	} else if few == 1 {
		from = from[:30]
	}
	var out strings.Builder
	for range r.Intn(most + 1) {
		out.WriteString(from[r.Intn(len(from))])
	}
	return out.String()
}

// The model's runes are those of Go's range, as the chapter says.
func TestModelIsRange(t *testing.T) {
	r := rand.New(rand.NewSource(15))
	check := func(s string) {
		t.Helper()
		var want []rune
		for _, x := range s {
			want = append(want, x)
		}
		if got := runesOf(s); !slices.Equal(got, want) || textOf(got) != string(want) {
			t.Errorf("the runes of %q are %q, not %q", s, want, got)
		}
		if validModel(s) != utf8.ValidString(s) {
			t.Errorf("of %q the model says %v", s, validModel(s))
		}
	}
	for _, s := range texts() {
		check(s)
	}
	for range 20000 {
		check(someText(r, 12))
	}
}

// The calls of one text and two others leave nothing kept: asked again, they answer the same.
func TestW2TwiceTheSame(t *testing.T) {
	r := rand.New(rand.NewSource(16))
	for range 3000 {
		s, part := someText(r, 8), someText(r, 2)
		first := runes.Split(s, part)
		want := slices.Clone(first)
		for i := range first {
			first[i] = "changed"
		}
		if got := runes.Split(s, part); !slices.Equal(got, want) {
			t.Errorf("Split(%q, %q), asked again, = %q, not %q", s, part, got, want)
		}
		if runes.Reverse(s) != runes.Reverse(s) || runes.Upper(s) != runes.Upper(s) || runes.Replace(s, part, s) != runes.Replace(s, part, s) {
			t.Errorf("of %q and %q not the same is answered twice", s, part)
		}
	}
}
