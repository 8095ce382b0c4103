package runes

import "strings"

// Before and After are what stands ahead of the first place of a part in a text, and behind it; "" where there is none.
func Before(s, part string) string {
	before, _, ok := strings.Cut(s, part)
	if !ok {
		return ""
	}
	return before
}

func After(s, part string) string {
	// Where the part does not stand, nothing is behind it.
	_, after, _ := strings.Cut(s, part)
	return after
}

// Split is a text cut wherever a part stands, from its beginning on; of an empty part its runes, each by itself.
func Split(s, part string) []string {
	if part != "" {
		return strings.Split(s, part)
	}
	var out []string
	for _, r := range s {
		out = append(out, string(r))
	}
	return out
}

// Replace is a text with a part replaced, wherever it stands, from its beginning on; an empty part stands nowhere.
func Replace(s, part, by string) string {
	// The library's call would lay by between all runes.
	if part == "" {
		return s
	}
	return strings.ReplaceAll(s, part, by)
}
