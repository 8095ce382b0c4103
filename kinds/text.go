package kinds

import (
	"strings"

	"casuist/api"
)

// Word is the name of a type that has nothing in it; "" of any other.
func Word(k api.Kind) string {
	switch k {
	case api.Null:
		return "Null"
	case api.Boolean:
		return "boolean"
	case api.Number:
		return "number"
	case api.String:
		return "string"
	case api.Date:
		return "date"
	case api.Time:
		return "time"
	case api.DateTime:
		return "date and time"
	case api.Days:
		return "days and time duration"
	case api.Months:
		return "years and months duration"
	case api.Any:
		return "Any"
	}
	return ""
}

// Text is a type's text; a context's names stand in it as strings.
func Text(t api.Type) string {
	var out strings.Builder
	write(&out, t)
	return out.String()
}

// Quote is a text as a string of the language: its runes, but a \ ahead of \ and ", and \n, \r, \t for line ends and tabs.
func Quote(s string) string {
	var out strings.Builder
	writeQuoted(&out, s)
	return out.String()
}

// write writes a type's text behind what is there: a text of its own for each part would be copied once for each type around it.
func write(out *strings.Builder, t api.Type) {
	switch t.Kind {
	case api.List:
		out.WriteString("list<")
		write(out, within(t))
		out.WriteString(">")
	case api.Range:
		out.WriteString("range<")
		write(out, within(t))
		out.WriteString(">")
	case api.Context:
		writeContext(out, t)
	case api.Function:
		writeFunction(out, t)
	default:
		out.WriteString(Word(t.Kind))
	}
}

func writeContext(out *strings.Builder, t api.Type) {
	names, items := entries(t)
	out.WriteString("context<")
	for i, name := range names {
		writeComma(out, i)
		writeQuoted(out, name)
		out.WriteString(": ")
		write(out, items[i])
	}
	out.WriteString(">")
}

func writeFunction(out *strings.Builder, t api.Type) {
	takes, gives := parts(t)
	out.WriteString("function<")
	for i, take := range takes {
		writeComma(out, i)
		write(out, take)
	}
	out.WriteString("> -> ")
	write(out, gives)
}

// writeComma writes what stands ahead of the thing at a place, if one stands there.
func writeComma(out *strings.Builder, place int) {
	if place > 0 {
		out.WriteString(", ")
	}
}

func writeQuoted(out *strings.Builder, s string) {
	out.WriteByte('"')
	for _, r := range s {
		switch r {
		case '\n':
			out.WriteString(`\n`)
		case '\r':
			out.WriteString(`\r`)
		case '\t':
			out.WriteString(`\t`)
		case '\\', '"':
			out.WriteByte('\\')
			out.WriteRune(r)
		default:
			out.WriteRune(r)
		}
	}
	out.WriteByte('"')
}
