package value_test

import (
	"math/rand"
	"slices"
	"strings"
	"testing"

	"casuist/api"
	"casuist/moment"
	"casuist/value"
)

func checkPlain(t *testing.T, v value.Value, want api.Datum) {
	t.Helper()
	d, ok := value.Plain(v)
	if !ok || !sameData(d, want) {
		t.Errorf("Plain of %.200s = %.200v, %v, not %.200v", told(v), d, ok, want)
	}
	back, ok := value.Of(d)
	if !ok || told(back) != told(v) {
		t.Errorf("Of(%.200v) = %.200s, %v, not %.200s", d, told(back), ok, told(v))
	}
}

func checkNotPlain(t *testing.T, v value.Value) {
	t.Helper()
	if d, ok := value.Plain(v); ok || !sameData(d, api.Datum{}) {
		t.Errorf("Plain of %.200s = %.200v, %v", told(v), d, ok)
	}
}

func TestP113Texts(t *testing.T) {
	for _, x := range []struct {
		v    value.Value
		kind api.Kind
		text string
	}{
		{value.Value{}, api.Null, ""},
		{value.Bool(true), api.Boolean, "true"},
		{value.Bool(false), api.Boolean, "false"},
		{value.Int(0), api.Number, "0"},
		{value.Int(-7), api.Number, "-7"},
		{value.Num(num("150", -2)), api.Number, "1.50"},
		{value.Num(num("-150", -2)), api.Number, "-1.50"},
		{value.Num(num("5", -3)), api.Number, "0.005"},
		{value.Num(num("0", -2)), api.Number, "0.00"},
		{value.Num(num("0", 3)), api.Number, "0E3"},
		{value.Num(num("12", 3)), api.Number, "12E3"},
		{value.Num(num("-12", -41)), api.Number, "-12E-41"},
		{value.Num(num(nines34, 6111)), api.Number, nines34 + "E6111"},
		{value.Text(""), api.String, ""},
		{value.Text("true"), api.String, "true"},
		{value.Text("a\"\\\n\u20ac\U0001f600"), api.String, "a\"\\\n\u20ac\U0001f600"},
		{value.Date(on(2024, 2, 29)), api.Date, "2024-02-29"},
		{value.Date(on(-44, 3, 15)), api.Date, "-0044-03-15"},
		{value.Time(plainTime(3661)), api.Time, "01:01:01"},
		{value.Time(zoned(3661, 0)), api.Time, "01:01:01Z"},
		{value.Time(zoned(3661, -19800)), api.Time, "01:01:01-05:30"},
		{value.Moment(moment.Moment{Date: on(2024, 2, 29), Time: plainTime(37230)}), api.DateTime, "2024-02-29T10:20:30"},
		{value.Moment(moment.Moment{Date: on(5, 1, 2), Time: zoned(0, 3601)}), api.DateTime, "0005-01-02T00:00:00+01:00:01"},
		{value.Days(0), api.Days, "PT0S"},
		{value.Days(90061), api.Days, "P1DT1H1M1S"},
		{value.Days(-most), api.Days, "-P104249991374DT7H36M32S"},
		{value.Months(0), api.Months, "P0M"},
		{value.Months(14), api.Months, "P1Y2M"},
		{value.Months(-most), api.Months, "-P750599937895082Y8M"},
	} {
		checkPlain(t, x.v, api.Datum{Kind: x.kind, Text: x.text})
		d, ok := value.Plain(x.v)
		if !ok || d.Kind != x.kind || d.Text != x.text || len(d.Items) != 0 || len(d.Names) != 0 || d.In != [2]bool{} {
			t.Errorf("Plain of %s = %v, %v", told(x.v), d, ok)
		}
	}
	long := strings.Repeat("\u00e9", 524288)
	checkPlain(t, value.Text(long), api.Datum{Kind: api.String, Text: long})
}

func TestP113Parts(t *testing.T) {
	one, null := api.Datum{Kind: api.Number, Text: "1"}, api.Datum{Kind: api.Null}
	empty := api.Datum{Kind: api.List}
	checkPlain(t, value.List(), empty)
	checkPlain(t, value.List(value.Int(1), value.Value{}), api.Datum{Kind: api.List, Items: []api.Datum{one, null}})
	checkPlain(t, value.List(value.List(), value.List(value.List())), api.Datum{Kind: api.List, Items: []api.Datum{empty, {Kind: api.List, Items: []api.Datum{empty}}}})
	checkPlain(t, value.Context(nil, nil), api.Datum{Kind: api.Context})
	checkPlain(t, value.Context([]string{"b", "", "a"}, []value.Value{value.Int(1), {}, value.List()}), api.Datum{Kind: api.Context, Names: []string{"b", "", "a"}, Items: []api.Datum{one, null, empty}})
	for _, in := range ins() {
		checkPlain(t, value.Range(value.Int(1), value.Text("a"), in), null)
		checkPlain(t, value.Range(value.Int(1), value.Num(num("10", -1)), in), api.Datum{Kind: api.Range, Items: []api.Datum{one, {Kind: api.Number, Text: "1.0"}}, In: in})
		checkPlain(t, value.Range(value.Int(1), value.Value{}, in), api.Datum{Kind: api.Range, Items: []api.Datum{one, null}, In: [2]bool{in[0], false}})
		checkPlain(t, value.Range(value.Value{}, value.Int(1), in), api.Datum{Kind: api.Range, Items: []api.Datum{null, one}, In: [2]bool{false, in[1]}})
		checkPlain(t, value.Range(value.Value{}, value.Value{}, in), api.Datum{Kind: api.Range, Items: []api.Datum{null, null}})
	}
}

func TestP113OfFunctions(t *testing.T) {
	f := value.Func("code", 1)
	for _, v := range []value.Value{
		f,
		value.Func(nil, 0),
		value.List(f),
		value.List(value.Int(1), f),
		value.List(f, value.Int(1)),
		value.List(value.Int(1), f, value.Int(1)),
		value.List(value.List(value.List(), value.List(f))),
		value.Context([]string{"a"}, []value.Value{f}),
		value.Context([]string{"a", "b", "c"}, []value.Value{{}, f, value.Int(1)}),
		value.Context([]string{"a"}, []value.Value{value.List(value.Context([]string{"a"}, []value.Value{f}))}),
		value.List(value.Context([]string{"a", "b"}, []value.Value{value.Int(1), value.List(f)})),
	} {
		checkNotPlain(t, v)
	}
	// Beside one such the others are as they were.
	v := value.List(value.Int(1))
	_ = value.List(v, f)
	checkPlain(t, v, api.Datum{Kind: api.List, Items: []api.Datum{{Kind: api.Number, Text: "1"}}})
	items, _ := value.List(v, f).AsList()
	checkPlain(t, items[0], api.Datum{Kind: api.List, Items: []api.Datum{{Kind: api.Number, Text: "1"}}})
	checkPlain(t, value.Range(f, value.Int(1), [2]bool{}), api.Datum{Kind: api.Null})
	checkPlain(t, value.Context([]string{"a"}, []value.Value{f, f}), api.Datum{Kind: api.Null})
}

// A function behind lists that hold one another twice each is told without going through all of these.
func TestP113FunctionBehindMuch(t *testing.T) {
	v := value.Value{}
	for range 200 {
		v = value.List(v, v)
	}
	checkIt := func(v value.Value) {
		if d, ok := value.Plain(v); ok || !sameData(d, api.Datum{}) {
			t.Error("a function was told plainly")
		}
	}
	checkIt(value.List(v, value.Func("code", 1)))
	checkIt(value.Context([]string{"a", "b"}, []value.Value{v, value.Func("code", 1)}))
}

// What is answered may be changed; the value stays.
func TestP113PlainIsItsOwn(t *testing.T) {
	v := value.List(value.Context([]string{"a", "b"}, ints(1, 2)), value.List(ints(3, 4)...), value.Range(value.Int(5), value.Int(6), [2]bool{true, true}))
	before := told(v)
	d, _ := value.Plain(v)
	again, _ := value.Plain(v)
	d.Items[0].Names[0], d.Items[0].Items[1].Text = "z", "9"
	d.Items[1].Items[0] = api.Datum{}
	d.Items[2].In[0] = false
	d.Items[2].Items[0].Text = "7"
	_ = append(d.Items[1].Items[:0], api.Datum{Kind: api.Null}, api.Datum{Kind: api.Null}, api.Datum{Kind: api.Null})
	d.Items[1], d.Items[0] = api.Datum{}, api.Datum{}
	if told(v) != before {
		t.Error("the value was changed to", told(v))
	}
	if now, ok := value.Plain(v); !ok || !sameData(now, again) {
		t.Error("what was told was changed to", now)
	}
}

// The same value at two places of one answer is told in memory of its own at each.
func TestP113PlacesShareNothing(t *testing.T) {
	c := value.Context([]string{"a"}, []value.Value{value.List(ints(1)...)})
	d, _ := value.Plain(value.List(c, c))
	d.Items[0].Names[0] = "z"
	d.Items[0].Items[0].Items[0].Text = "9"
	if d.Items[1].Names[0] != "a" || d.Items[1].Items[0].Items[0].Text != "1" {
		t.Error(d.Items[1])
	}
}

func TestP113ByTheWords(t *testing.T) {
	r := rand.New(rand.NewSource(113))
	for range 20000 {
		x := someThing(r, 4)
		v := x.made()
		check(t, v, x)
		want, ok := x.datum()
		if !ok {
			checkNotPlain(t, v)
			continue
		}
		checkPlain(t, v, want)
	}
}

// deepList is a list in a list and so on, with something in the last one.
func deepList(n int, last value.Value) value.Value {
	v := last
	for i := range n {
		if i%2 == 0 {
			v = value.List(v)
		} else {
			v = value.Context([]string{"a"}, []value.Value{v})
		}
	}
	return v
}

// depth is how many parts are nested in a datum, and what the innermost one is.
func depth(d api.Datum) (int, api.Datum) {
	for n := 0; ; n++ {
		if len(d.Items) != 1 {
			return n, d
		}
		if d.Kind == api.Context && !slices.Equal(d.Names, []string{"a"}) {
			return -1, d
		}
		d = d.Items[0]
	}
}

func TestP113Deep(t *testing.T) {
	const n = 1 << 16
	v := deepList(n, value.Int(7))
	d, ok := value.Plain(v)
	if got, last := depth(d); !ok || got != n || last.Text != "7" {
		t.Error(got, last, ok)
	}
	back, ok := value.Of(d)
	again, is := value.Plain(back)
	if got, last := depth(again); !ok || !is || got != n || last.Text != "7" {
		t.Error(got, last, ok, is)
	}
	if d, ok := value.Plain(deepList(n, value.Func(1, 1))); ok || !sameData(d, api.Datum{}) {
		t.Error("a function, deep within, was told plainly")
	}
}
