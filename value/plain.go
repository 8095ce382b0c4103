package value

import (
	"slices"
	"strconv"

	"casuist/api"
	"casuist/civil"
	"casuist/clock"
	"casuist/dec"
	"casuist/lexical"
	"casuist/moment"
	"casuist/numeral"
)

// Plain is a value told plainly; false, if it is a function, or has one in it.
func Plain(v Value) (api.Datum, bool) {
	if v.code {
		return api.Datum{}, false
	}
	return datum(v), true
}

// datum is a value in which no function is, told plainly.
func datum(v Value) api.Datum {
	d := api.Datum{Kind: v.Kind()}
	switch d.Kind {
	case api.List:
		d.Items = data(v.in.(list))
	case api.Context:
		c := v.in.(entries)
		d.Names, d.Items = slices.Clone(c.names), data(c.items)
	case api.Range:
		r := v.in.(bounds)
		d.Items, d.In = data(r.ends[:]), r.in
	default:
		d.Text = text(v)
	}
	return d
}

func data(vs []Value) []api.Datum {
	out := make([]api.Datum, len(vs))
	for i, v := range vs {
		out[i] = datum(v)
	}
	return out
}

// text is the text of a value that has no parts; nothing of null.
func text(v Value) string {
	switch v.Kind() {
	case api.Boolean:
		return strconv.FormatBool(v.in.(bool))
	case api.Number:
		return numeral.Text(v.in.(dec.Dec))
	case api.String:
		return v.in.(string)
	case api.Date:
		return lexical.Date(v.in.(civil.Date))
	case api.Time:
		return lexical.Time(v.in.(clock.Time))
	case api.DateTime:
		return lexical.Moment(v.in.(moment.Moment))
	case api.Days:
		return lexical.Days(int(v.in.(days)))
	case api.Months:
		return lexical.Months(int(v.in.(months)))
	}
	return ""
}

// Of is the value that is told plainly; false, if it is none's.
func Of(d api.Datum) (Value, bool) {
	if !bare(d) {
		return Value{}, false
	}
	switch d.Kind {
	case api.Null:
		return Value{}, true
	case api.List, api.Context, api.Range:
		return whole(d)
	}
	v, ok := read(d.Kind, d.Text)
	if !ok {
		return Value{}, false
	}
	return v, true
}

// bare tells whether a datum has nothing that its kind has not.
func bare(d api.Datum) bool {
	switch d.Kind {
	case api.Null:
		return d.Text == "" && len(d.Items) == 0 && len(d.Names) == 0
	case api.List, api.Range:
		return d.Text == "" && len(d.Names) == 0
	case api.Context:
		return d.Text == ""
	}
	return len(d.Items) == 0 && len(d.Names) == 0
}

// whole is the value of a datum that has parts; null and false, if there is none, or a part tells none.
func whole(d api.Datum) (Value, bool) {
	parts := make([]Value, len(d.Items))
	for i, item := range d.Items {
		v, ok := Of(item)
		if !ok {
			return Value{}, false
		}
		parts[i] = v
	}
	v := together(d, parts)
	return v, !v.Null()
}

// together is the value of a datum that has those parts; null, if there is none.
func together(d api.Datum, parts []Value) Value {
	switch {
	case d.Kind == api.List:
		return List(parts...)
	case d.Kind == api.Context:
		return Context(d.Names, parts)
	case len(parts) == 2:
		return Range(parts[0], parts[1], d.In)
	}
	return Value{}
}

// read is the value of a kind that has a text; false, if there is none.
func read(k api.Kind, s string) (Value, bool) {
	switch k {
	case api.Boolean:
		return Bool(s == "true"), s == "true" || s == "false"
	case api.Number:
		d, ok := numeral.Signed(s)
		return Num(d), ok
	case api.String:
		v := Text(s)
		return v, !v.Null()
	case api.Date:
		d, ok := lexical.ReadDate(s)
		return Date(d), ok
	case api.Time:
		t, ok := lexical.ReadTime(s)
		return Time(t), ok
	case api.DateTime:
		m, ok := lexical.ReadMoment(s)
		return Moment(m), ok
	case api.Days:
		n, ok := lexical.ReadDays(s)
		return Days(n), ok
	case api.Months:
		n, ok := lexical.ReadMonths(s)
		return Months(n), ok
	}
	return Value{}, false
}
