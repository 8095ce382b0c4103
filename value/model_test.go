package value_test

import (
	"fmt"
	"math"
	"math/big"
	"math/rand"
	"slices"
	"strings"
	"testing"
	"unicode/utf8"

	"casuist/api"
	"casuist/civil"
	"casuist/clock"
	"casuist/dec"
	"casuist/lexical"
	"casuist/moment"
	"casuist/numeral"
	"casuist/value"
	"casuist/wide"
)

// What the chapter's words say, done plainly, for the tests to hold the package against. Numbers and temporal values go by the layers below, as the words do.

const most = 1 << 53

func TestLimits(t *testing.T) {
	if api.MaxSpan != most || api.MaxText != 1048576 || api.MaxExp != 6111 || api.MinExp != -6176 || api.MaxOffset != 64800 {
		t.Error("the tests of this package are written for other limits")
	}
}

// told is a value by all that its kind's question answers, as a text of its own; and a complaint, if another kind's question answers something.
func told(v value.Value) string {
	var out []string
	note := func(what string, ok, empty bool, s func() string) {
		if ok {
			out = append(out, what+" "+s())
		} else if !empty {
			out = append(out, what+" answers something beside a false")
		}
	}
	b, ok := v.AsBool()
	note("boolean", ok, !b, func() string { return fmt.Sprint(b) })
	d, ok := v.AsNum()
	note("number", ok, d == dec.Dec{}, func() string { return toldNum(d) })
	i, whole := v.AsInt()
	if n, isWhole := d.Whole(); whole != (ok && isWhole) || whole && i != n || !whole && i != 0 {
		out = append(out, "AsInt is another than the number's Whole")
	}
	s, ok := v.AsText()
	note("string", ok, s == "", func() string { return fmt.Sprintf("%q", s) })
	day, ok := v.AsDate()
	note("date", ok, day == civil.Date{}, func() string { return fmt.Sprint(day) })
	at, ok := v.AsTime()
	note("time", ok, at == clock.Time{}, func() string { return fmt.Sprint(at) })
	m, ok := v.AsMoment()
	note("date and time", ok, m == moment.Moment{}, func() string { return fmt.Sprint(m) })
	seconds, ok := v.AsDays()
	note("days", ok, seconds == 0, func() string { return fmt.Sprint(seconds) })
	n, ok := v.AsMonths()
	note("months", ok, n == 0, func() string { return fmt.Sprint(n) })
	vs, ok := v.AsList()
	note("list", ok, len(vs) == 0, func() string { return toldAll(vs) })
	names, items, ok := v.AsContext()
	note("context", ok, len(names) == 0 && len(items) == 0, func() string { return fmt.Sprintf("%q %s", names, toldAll(items)) })
	ends, in, ok := v.AsRange()
	note("range", ok, ends[0].Null() && ends[1].Null() && in == [2]bool{}, func() string { return fmt.Sprint(toldAll(ends[:]), in) })
	code, takes, ok := v.AsFunc()
	note("function", ok, code == nil && takes == 0, func() string { return fmt.Sprintf("%T %v %d", code, code, takes) })
	return fmt.Sprintf("<%d %v %s>", v.Kind(), v.Null(), strings.Join(out, ", "))
}

func toldAll(vs []value.Value) string {
	out := make([]string, len(vs))
	for i, v := range vs {
		out[i] = told(v)
	}
	return "[" + strings.Join(out, " ") + "]"
}

func toldNum(d dec.Dec) string { return fmt.Sprintf("%v %s by 10^%d", d.Neg, d.Coef.Text(), d.Exp) }

// thing is the tests' own picture of a value.
type thing struct {
	kind  api.Kind
	flag  bool
	num   dec.Dec
	text  string
	day   civil.Date
	at    clock.Time
	n     int // of a duration how long it is; of a function how many it takes
	names []string
	items []thing
	in    [2]bool
}

func (x thing) told() string {
	s := ""
	switch x.kind {
	case api.Null:
		return "<1 true >"
	case api.Boolean:
		s = fmt.Sprint("boolean ", x.flag)
	case api.Number:
		s = "number " + toldNum(x.num)
	case api.String:
		s = fmt.Sprintf("string %q", x.text)
	case api.Date:
		s = fmt.Sprint("date ", x.day)
	case api.Time:
		s = fmt.Sprint("time ", x.at)
	case api.DateTime:
		s = fmt.Sprint("date and time ", moment.Moment{Date: x.day, Time: x.at})
	case api.Days:
		s = fmt.Sprint("days ", x.n)
	case api.Months:
		s = fmt.Sprint("months ", x.n)
	case api.List:
		s = "list " + toldThings(x.items)
	case api.Context:
		s = fmt.Sprintf("context %q %s", x.names, toldThings(x.items))
	case api.Range:
		s = fmt.Sprint("range ", toldThings(x.items), x.in)
	case api.Function:
		s = fmt.Sprintf("function string %s %d", x.text, x.n)
	}
	return fmt.Sprintf("<%d false %s>", x.kind, s)
}

func toldThings(xs []thing) string {
	out := make([]string, len(xs))
	for i, x := range xs {
		out[i] = x.told()
	}
	return "[" + strings.Join(out, " ") + "]"
}

// made is the value of it, by the package's own calls.
func (x thing) made() value.Value {
	var items []value.Value
	for _, y := range x.items {
		items = append(items, y.made())
	}
	switch x.kind {
	case api.Boolean:
		return value.Bool(x.flag)
	case api.Number:
		return value.Num(x.num)
	case api.String:
		return value.Text(x.text)
	case api.Date:
		return value.Date(x.day)
	case api.Time:
		return value.Time(x.at)
	case api.DateTime:
		return value.Moment(moment.Moment{Date: x.day, Time: x.at})
	case api.Days:
		return value.Days(x.n)
	case api.Months:
		return value.Months(x.n)
	case api.List:
		return value.List(items...)
	case api.Context:
		return value.Context(x.names, items)
	case api.Range:
		return value.Range(items[0], items[1], x.in)
	case api.Function:
		return value.Func(x.text, x.n)
	}
	return value.Value{}
}

// datum is it, told plainly; false, if a function is in it.
func (x thing) datum() (api.Datum, bool) {
	d := api.Datum{Kind: x.kind}
	switch x.kind {
	case api.Boolean:
		d.Text = fmt.Sprint(x.flag)
	case api.Number:
		d.Text = numeral.Text(x.num)
	case api.String:
		d.Text = x.text
	case api.Date:
		d.Text = lexical.Date(x.day)
	case api.Time:
		d.Text = lexical.Time(x.at)
	case api.DateTime:
		d.Text = lexical.Moment(moment.Moment{Date: x.day, Time: x.at})
	case api.Days:
		d.Text = lexical.Days(x.n)
	case api.Months:
		d.Text = lexical.Months(x.n)
	case api.Function:
		return api.Datum{}, false
	}
	for _, y := range x.items {
		item, ok := y.datum()
		if !ok {
			return api.Datum{}, false
		}
		d.Items = append(d.Items, item)
	}
	d.Names = append(d.Names, x.names...)
	d.In = x.in
	return d, true
}

// ofModel is what a datum tells: each of the chapter's reasons for which it tells nothing is asked by itself.
func ofModel(d api.Datum) (thing, bool) {
	x := thing{kind: d.Kind}
	parts := d.Kind == api.List || d.Kind == api.Context || d.Kind == api.Range
	switch {
	case d.Kind < api.Null || d.Kind > api.Range,
		len(d.Items) > 0 && !parts,
		len(d.Names) > 0 && d.Kind != api.Context,
		d.Text != "" && (parts || d.Kind == api.Null),
		d.Kind == api.Range && len(d.Items) != 2,
		d.Kind == api.Context && len(d.Items) != len(d.Names):
		return thing{}, false
	}
	for _, item := range d.Items {
		y, ok := ofModel(item)
		if !ok {
			return thing{}, false
		}
		x.items = append(x.items, y)
	}
	for i, name := range d.Names {
		if !utf8.ValidString(name) || slices.Contains(d.Names[:i], name) {
			return thing{}, false
		}
	}
	x.names = d.Names
	ok := true
	switch d.Kind {
	case api.Boolean:
		x.flag, ok = d.Text == "true", d.Text == "true" || d.Text == "false"
	case api.Number:
		x.num, ok = numeral.Signed(d.Text)
	case api.String:
		x.text, ok = d.Text, utf8.ValidString(d.Text) && len(d.Text) <= 1048576
	case api.Date:
		x.day, ok = lexical.ReadDate(d.Text)
	case api.Time:
		x.at, ok = lexical.ReadTime(d.Text)
	case api.DateTime:
		var m moment.Moment
		m, ok = lexical.ReadMoment(d.Text)
		x.day, x.at = m.Date, m.Time
	case api.Days:
		x.n, ok = lexical.ReadDays(d.Text)
	case api.Months:
		x.n, ok = lexical.ReadMonths(d.Text)
	case api.Range:
		x.in, ok = rangeModel(x.items, d.In)
	}
	if !ok {
		return thing{}, false
	}
	return x, true
}

// rangeModel is which of both ends belong to a range; false, if there is no such range.
func rangeModel(ends []thing, in [2]bool) ([2]bool, bool) {
	var kinds []api.Kind
	for i, end := range ends {
		if end.kind == api.Null {
			in[i] = false
		} else {
			kinds = append(kinds, end.kind)
		}
	}
	for _, k := range kinds {
		if !orderedModel(k) || k != kinds[0] {
			return [2]bool{}, false
		}
	}
	return in, true
}

func orderedModel(k api.Kind) bool { return slices.Contains(orderedKinds(), k) }

func orderedKinds() []api.Kind {
	return []api.Kind{api.Number, api.String, api.Date, api.Time, api.DateTime, api.Days, api.Months}
}

// kinds are all that api has, and some that it has not.
func kinds() []api.Kind {
	out := []api.Kind{math.MinInt, -1000, 1000, math.MaxInt}
	for k := api.Kind(-20); k <= 40; k++ {
		out = append(out, k)
	}
	return out
}

func sameData(a, b api.Datum) bool {
	return a.Kind == b.Kind && a.Text == b.Text && a.In == b.In && slices.Equal(a.Names, b.Names) && slices.EqualFunc(a.Items, b.Items, sameData)
}

func on(y, m, d int) civil.Date { return civil.Date{Year: y, Month: m, Day: d} }

func plainTime(sec int) clock.Time { return clock.Time{Sec: sec} }

func zoned(sec, offset int) clock.Time { return clock.Time{Sec: sec, Zoned: true, Offset: offset} }

// num is a number of those digits, with that exponent; a - may stand ahead.
func num(digits string, exp int) dec.Dec {
	digits, neg := strings.CutPrefix(digits, "-")
	x, ok := new(big.Int).SetString(digits, 10)
	if !ok {
		panic("no digits: " + digits)
	}
	word := new(big.Int).SetUint64(math.MaxUint64)
	lo := new(big.Int).And(x, word).Uint64()
	return dec.Dec{Neg: neg, Coef: wide.U{Hi: x.Rsh(x, 64).Uint64(), Lo: lo}, Exp: exp}
}

const nines34 = "9999999999999999999999999999999999"

func edgeNums() []dec.Dec {
	return []dec.Dec{
		{}, {Exp: 5}, {Exp: -5}, {Exp: 6111}, {Exp: -6176}, num("1", 0), num("-1", 0), num("150", -2), num("-150", -2), num("1", 6111), num("-1", -6176), num(nines34, 0), num("-"+nines34, 0), num(nines34, 6111), num("-"+nines34, -6176),
		num("5", -40), num("5", -41), num("-5", 1), num("100", -2), num("25", 2), num("9223372036854775807", 0), num("9223372036854775808", 0), num("-9223372036854775808", 0), num("-9223372036854775809", 0),
	}
}

func noNums() []dec.Dec {
	top := wide.U{Hi: math.MaxUint64, Lo: math.MaxUint64}
	return []dec.Dec{
		{Neg: true}, {Neg: true, Exp: 3}, {Exp: 6112}, {Exp: -6177}, num("1", 6112), num("1", -6177), num("1", math.MaxInt), num("-1", math.MinInt),
		num("10000000000000000000000000000000000", 0), num("-10000000000000000000000000000000000", -6176), {Coef: top}, {Neg: true, Coef: top, Exp: math.MinInt},
	}
}

func edgeDays() []civil.Date {
	return []civil.Date{on(2024, 2, 29), on(-999999999, 1, 1), on(999999999, 12, 31), on(0, 1, 1), on(0, 2, 29), on(-1, 12, 31), on(1970, 1, 1), on(5, 1, 2), on(12345, 10, 31)}
}

func noDays() []civil.Date {
	return []civil.Date{{}, on(2023, 2, 29), on(2024, 2, 30), on(2024, 4, 31), on(2024, 13, 1), on(2024, 0, 1), on(2024, 1, 0), on(2024, 1, 32), on(1000000000, 1, 1), on(-1000000000, 12, 31), on(math.MinInt, math.MinInt, math.MinInt), on(2024, math.MaxInt, math.MaxInt)}
}

func edgeTimes() []clock.Time {
	return []clock.Time{{}, plainTime(86399), plainTime(37230), zoned(0, 0), zoned(86399, 64800), zoned(0, -64800), zoned(3661, -19800), zoned(3661, 1), zoned(43200, 3600)}
}

func noTimes() []clock.Time {
	return []clock.Time{plainTime(86400), plainTime(-1), {Offset: 1}, {Sec: 5, Offset: -3600}, zoned(86400, 0), zoned(-1, 0), zoned(0, 64801), zoned(0, -64801), plainTime(math.MinInt), zoned(0, math.MinInt), zoned(math.MaxInt, math.MaxInt)}
}

func edgeSpans() []int {
	return []int{0, 1, -1, 11, 12, 14, -14, 59, 60, 3600, 86399, 86400, -86400, 90061, -90061, most - 1, most, -most + 1, -most}
}

func tooLong() []int {
	return []int{most + 1, -most - 1, 1 << 54, -1 << 54, 1 << 62, math.MaxInt, math.MinInt, math.MinInt + most, math.MaxInt - most}
}

func edgeTexts() []string {
	return []string{"", "a", "true", "1.50", "null", "2024-02-29", "\x00", "a\nb\t\"\\", "\u00e9", "e\u0301", "\u20ac", "\U0001f600", "a\u00e9\u20ac\U0001f600", "\ufffd", "\ufeff", "\U0010ffff", "\ud7ff\ue000"}
}

// notUTF8 are texts that are not: bytes that begin nothing, signs cut off, told too long, of half a pair, beyond the last one.
func notUTF8() []string {
	return []string{"\xff", "\x80", "a\xbf", "\xc3", "\xe2\x82", "\xf0\x9f\x98", "\xe2\x82a", "\xc0\x80", "\xc1\xbf", "\xe0\x80\x80", "\xf0\x80\x80\x80", "\xed\xa0\x80", "\xed\xbf\xbf", "\xf4\x90\x80\x80", "\xf8\x88\x80\x80\x80", "abc\xfe", "\xffabc"}
}

// someThing is anything that may be a value, so deep at most.
func someThing(r *rand.Rand, deep int) thing {
	k := api.Null + api.Kind(r.Intn(int(api.Range)))
	if r.Intn(30) == 0 {
		k = api.Function
	}
	if deep == 0 && (k == api.List || k == api.Context) {
		k = api.Number
	}
	x := thing{kind: k}
	switch k {
	case api.List, api.Context:
		for i := range r.Intn(4) {
			x.items = append(x.items, someThing(r, deep-1))
			if k == api.Context {
				x.names = append(x.names, strings.Repeat("n", (i+r.Intn(2)*7)%9)+fmt.Sprint(i))
			}
		}
		return x
	case api.Range:
		return someRange(r)
	}
	return someOf(r, k)
}

func someRange(r *rand.Rand) thing {
	ordered := orderedKinds()
	k := ordered[r.Intn(len(ordered))]
	x := thing{kind: api.Range}
	for i := range 2 {
		end := thing{kind: api.Null}
		if r.Intn(4) > 0 {
			end = someOf(r, k)
			x.in[i] = r.Intn(2) == 0
		}
		x.items = append(x.items, end)
	}
	return x
}

func someOf(r *rand.Rand, k api.Kind) thing {
	x := thing{kind: k}
	switch k {
	case api.Boolean:
		x.flag = r.Intn(2) == 0
	case api.Number:
		x.num = pick(r, edgeNums())
		if r.Intn(2) == 0 {
			x.num = num(fmt.Sprint(1+r.Uint64()>>r.Intn(64)), r.Intn(100)-50)
			x.num.Neg = r.Intn(2) == 0
		}
	case api.String:
		x.text = pick(r, edgeTexts())
	case api.Date:
		x.day = pick(r, edgeDays())
	case api.Time:
		x.at = pick(r, edgeTimes())
	case api.DateTime:
		x.day, x.at = pick(r, edgeDays()), pick(r, edgeTimes())
	case api.Days, api.Months:
		x.n = pick(r, edgeSpans())
	case api.Function:
		x.text, x.n = "code", r.Intn(5)-1
	}
	return x
}

func pick[T any](r *rand.Rand, all []T) T { return all[r.Intn(len(all))] }
