package value_test

import (
	"math/rand"
	"strings"
	"testing"

	"casuist/api"
	"casuist/dec"
	"casuist/moment"
	"casuist/value"
)

func checkOf(t *testing.T, d api.Datum, want value.Value) {
	t.Helper()
	if v, ok := value.Of(d); !ok || told(v) != told(want) {
		t.Errorf("Of(%.200v) = %.200s, %v, not %.200s", d, told(v), ok, told(want))
	}
}

// checkNone holds that a datum tells nothing, nor does a list, a context, a range in which it is.
func checkNone(t *testing.T, d api.Datum) {
	t.Helper()
	one, null := api.Datum{Kind: api.Number, Text: "1"}, api.Datum{Kind: api.Null}
	for _, d := range []api.Datum{
		d,
		{Kind: api.List, Items: []api.Datum{d}},
		{Kind: api.List, Items: []api.Datum{one, d}},
		{Kind: api.List, Items: []api.Datum{d, one}},
		{Kind: api.List, Items: []api.Datum{one, {Kind: api.List, Items: []api.Datum{null, d, null}}}},
		{Kind: api.Context, Names: []string{"a", "b"}, Items: []api.Datum{one, d}},
		{Kind: api.Context, Names: []string{"a", "b"}, Items: []api.Datum{d, null}},
		{Kind: api.Context, Names: []string{"a"}, Items: []api.Datum{{Kind: api.Context, Names: []string{"a"}, Items: []api.Datum{d}}}},
		{Kind: api.Range, Items: []api.Datum{d, null}},
		{Kind: api.Range, Items: []api.Datum{null, d}, In: [2]bool{true, true}},
		{Kind: api.Range, Items: []api.Datum{d, d}},
	} {
		if v, ok := value.Of(d); ok || !v.Null() {
			t.Errorf("Of(%.200v) = %.200s, %v", d, told(v), ok)
		}
	}
}

func checkNoneOf(t *testing.T, k api.Kind, texts ...string) {
	t.Helper()
	for _, s := range texts {
		checkNone(t, api.Datum{Kind: k, Text: s})
	}
}

func TestP114Texts(t *testing.T) {
	for _, x := range []struct {
		kind api.Kind
		text string
		want value.Value
	}{
		{api.Null, "", value.Value{}},
		{api.Boolean, "true", value.Bool(true)},
		{api.Boolean, "false", value.Bool(false)},
		{api.Number, "1.50", value.Num(num("150", -2))},
		{api.Number, "-1.50", value.Num(num("-150", -2))},
		{api.Number, "0", value.Int(0)},
		{api.Number, "-0", value.Int(0)},
		{api.Number, "-0.00", value.Num(num("0", -2))},
		{api.Number, "007", value.Int(7)},
		{api.Number, ".5", value.Num(num("5", -1))},
		{api.Number, "1.20E+3", value.Num(num("120", 1))},
		{api.Number, "1E3", value.Num(num("1", 3))},
		{api.Number, "-12E-003", value.Num(num("-12", -3))},
		{api.Number, "0E6111", value.Num(num("0", 6111))},
		{api.Number, "0E999999", value.Num(num("0", 6111))},
		{api.Number, nines34 + "E6111", value.Num(num(nines34, 6111))},
		{api.Number, "12345678901234567890123456789012345", value.Num(num("1234567890123456789012345678901234", 1))},
		{api.Number, "1E-999999", value.Num(num("0", -6176))},
		{api.String, "", value.Text("")},
		{api.String, "a", value.Text("a")},
		{api.String, "true", value.Text("true")},
		{api.String, " a\n\u00e9\u20ac\U0001f600", value.Text(" a\n\u00e9\u20ac\U0001f600")},
		{api.Date, "2024-02-29", value.Date(on(2024, 2, 29))},
		{api.Date, "-0044-03-15", value.Date(on(-44, 3, 15))},
		{api.Date, "999999999-12-31", value.Date(on(999999999, 12, 31))},
		{api.Time, "00:00:00", value.Time(plainTime(0))},
		{api.Time, "23:59:59", value.Time(plainTime(86399))},
		{api.Time, "10:20:30Z", value.Time(zoned(37230, 0))},
		{api.Time, "10:20:30-05:30", value.Time(zoned(37230, -19800))},
		{api.DateTime, "2024-02-29T10:20:30", value.Moment(moment.Moment{Date: on(2024, 2, 29), Time: plainTime(37230)})},
		{api.DateTime, "2024-02-29T10:20:30+18:00", value.Moment(moment.Moment{Date: on(2024, 2, 29), Time: zoned(37230, 64800)})},
		{api.Days, "PT0S", value.Days(0)},
		{api.Days, "PT36H", value.Days(129600)},
		{api.Days, "-P1DT1S", value.Days(-86401)},
		{api.Days, "P104249991374DT7H36M32S", value.Days(most)},
		{api.Months, "P0M", value.Months(0)},
		{api.Months, "P14M", value.Months(14)},
		{api.Months, "-P1Y2M", value.Months(-14)},
		{api.Months, "-P750599937895082Y8M", value.Months(-most)},
	} {
		checkOf(t, api.Datum{Kind: x.kind, Text: x.text}, x.want)
		// In is let go, and empty lists are empty, nil or not.
		checkOf(t, api.Datum{Kind: x.kind, Text: x.text, Items: []api.Datum{}, Names: []string{}, In: [2]bool{true, true}}, x.want)
	}
	long := strings.Repeat("\U0001f600", 262144)
	checkOf(t, api.Datum{Kind: api.String, Text: long}, value.Text(long))
	checkNone(t, api.Datum{Kind: api.String, Text: long + "x"})
	if v, ok := value.Of(api.Datum{Kind: api.Null}); !ok || !v.Null() {
		t.Error("null:", told(v), ok)
	}
}

func TestP114NoTexts(t *testing.T) {
	checkNoneOf(t, api.Null, "null", " ", "0", "false", "\xff")
	checkNoneOf(t, api.Boolean, "", "TRUE", "True", "False", " true", "true ", "truefalse", "tru", "1", "0", "t", "null", "\xff")
	checkNoneOf(t, api.Number, "", "-", "--1", "+1", "1.", ".", "-.", "1e3", "1E", "1E+", "1E1234567", "0x1", "1_000", " 1", "1 ", "1,5", "\u0661", "NaN", "Infinity", "true", "1E6146", "-1E9999", nines34+"9E6111", "1\x00", "\xff", "1\xff")
	checkNoneOf(t, api.Date, "", "2024-02-30", "2023-02-29", "2024-2-29", "2024-13-01", "02024-01-01", "-0000-01-01", "1000000000-01-01", "2024-02-29T00:00:00", "2024-02-29Z", " 2024-02-29", "2024-02-29 ", "20240229", "+2024-02-29", "\xff")
	checkNoneOf(t, api.Time, "", "24:00:00", "10:60:00", "10:20:60", "10:20", "1:20:30", "10:20:30z", "10:20:30+00:00", "10:20:30-00:00", "10:20:30+18:01", "10:20:30+01:00:00", "10:20:30.5", "T10:20:30", "2024-02-29T10:20:30", "\xff")
	checkNoneOf(t, api.DateTime, "", "2024-02-29", "10:20:30", "2024-02-30T10:20:30", "2024-02-29T24:00:00", "2024-02-29t10:20:30", "2024-02-29 10:20:30", "2024-02-29T", "T10:20:30", "2024-02-29T10:20:30+00:00", "2024-02-29T10:20:30T10:20:30", "\xff")
	checkNoneOf(t, api.Days, "", "P", "PT", "P1DT", "-P", "--P1D", "+P1D", "P-1D", "P1Y", "P1M", "P1Y2M", "PT1D", "P1H", "PT1S1M", "PT1M1M", "PT1.5S", "p1d", " P1D", "1", "P1", "P104249991374DT7H36M33S", "-P104249991374DT7H36M33S", "PT1234567890123S", "\xff")
	checkNoneOf(t, api.Months, "", "P", "-P", "--P1M", "P1D", "PT1M", "P1M1Y", "P1Y1Y", "P1YT", "P1.5Y", "p1m", "P1", "1", "P750599937895082Y9M", "-P750599937895082Y9M", "P1234567890123456M", "\xff")
	for _, s := range notUTF8() {
		checkNoneOf(t, api.String, s, "a"+s, s+"a")
		for k := api.Null; k <= api.Range; k++ {
			checkNoneOf(t, k, s)
		}
	}
	checkNoneOf(t, api.String, strings.Repeat("x", 1048577), strings.Repeat("\u20ac", 349526))
}

// Each kind's text is of that kind alone; a string's may look like any.
func TestP114TextsOfOtherKinds(t *testing.T) {
	texts := map[api.Kind]string{api.Boolean: "true", api.Number: "1", api.Date: "2024-02-29", api.Time: "10:20:30", api.DateTime: "2024-02-29T10:20:30", api.Days: "PT1M", api.Months: "P1M"}
	for k, s := range texts {
		for other := range texts {
			if v, ok := value.Of(api.Datum{Kind: other, Text: s}); ok != (k == other) || ok && v.Kind() != k {
				t.Errorf("Of(%d, %q) = %s, %v", other, s, told(v), ok)
			}
		}
		checkOf(t, api.Datum{Kind: api.String, Text: s}, value.Text(s))
	}
}

func TestP114Kinds(t *testing.T) {
	for _, k := range append(kinds(), api.Function, api.Any) {
		if k >= api.Null && k <= api.Range {
			continue
		}
		checkNone(t, api.Datum{Kind: k})
		checkNone(t, api.Datum{Kind: k, Text: "1"})
		checkNone(t, api.Datum{Kind: k, Text: "<function 1>"})
		checkNone(t, api.Datum{Kind: k, Items: []api.Datum{{Kind: api.Null}, {Kind: api.Null}}})
		checkNone(t, api.Datum{Kind: k, Names: []string{"a"}, Items: []api.Datum{{Kind: api.Null}}, In: [2]bool{true, false}})
	}
	checkNone(t, api.Datum{})
}

// Something that the kind has not is wrong, however right all else is.
func TestP114WhatTheKindHasNot(t *testing.T) {
	null := api.Datum{Kind: api.Null}
	right := map[api.Kind]api.Datum{
		api.Null: {}, api.Boolean: {Text: "true"}, api.Number: {Text: "1"}, api.String: {Text: "a"}, api.Date: {Text: "2024-02-29"}, api.Time: {Text: "10:20:30"}, api.DateTime: {Text: "2024-02-29T10:20:30"}, api.Days: {Text: "P1D"}, api.Months: {Text: "P1M"},
		api.List: {Items: []api.Datum{null, null}}, api.Context: {Names: []string{"a", "b"}, Items: []api.Datum{null, null}}, api.Range: {Items: []api.Datum{null, null}},
	}
	for k, d := range right {
		d.Kind = k
		if _, ok := value.Of(d); !ok {
			t.Errorf("%v tells nothing", d)
		}
		parts := k == api.List || k == api.Context || k == api.Range
		if !parts {
			for _, items := range [][]api.Datum{{null}, {{}}, {null, null}, {{Kind: api.Number, Text: "1"}}} {
				e := d
				e.Items = items
				checkNone(t, e)
				if k == api.String {
					e.Text = ""
					checkNone(t, e)
				}
			}
		}
		if k != api.Context {
			for _, names := range [][]string{{"a"}, {""}, {"a", "b"}, {"\xff"}} {
				e := d
				e.Names = names
				checkNone(t, e)
				if k == api.List {
					e.Items = nil
					checkNone(t, e)
				}
			}
		}
		if parts || k == api.Null {
			for _, text := range []string{"a", " ", "null", "1", "[]", "\x00", "\xff"} {
				e := d
				e.Text = text
				checkNone(t, e)
			}
		}
		// In is let go of all but ranges, and of their open ends.
		want, _ := value.Of(d)
		d.In = [2]bool{true, true}
		checkOf(t, d, want)
	}
}

func TestP114Lists(t *testing.T) {
	one, null := api.Datum{Kind: api.Number, Text: "1"}, api.Datum{Kind: api.Null}
	checkOf(t, api.Datum{Kind: api.List}, value.List())
	checkOf(t, api.Datum{Kind: api.List, Items: []api.Datum{}}, value.List())
	checkOf(t, api.Datum{Kind: api.List, Items: []api.Datum{null}}, value.List(value.Value{}))
	checkOf(t, api.Datum{Kind: api.List, Items: []api.Datum{one, null, {Kind: api.String}}}, value.List(value.Int(1), value.Value{}, value.Text("")))
	checkOf(t, api.Datum{Kind: api.List, Items: []api.Datum{{Kind: api.List, Items: []api.Datum{one, one}}, {Kind: api.Context}}}, value.List(value.List(ints(1, 1)...), value.Context(nil, nil)))
	items := make([]api.Datum, 3*65536)
	for i := range items {
		items[i] = one
	}
	if v, ok := value.Of(api.Datum{Kind: api.List, Items: items}); !ok || v.Null() {
		t.Error("a long list tells nothing")
	}
	items[len(items)-1] = api.Datum{Kind: api.Number, Text: "x"}
	if v, ok := value.Of(api.Datum{Kind: api.List, Items: items}); ok || !v.Null() {
		t.Error("a long list whose last item tells nothing tells something")
	}
}

func TestP114Contexts(t *testing.T) {
	one, null := api.Datum{Kind: api.Number, Text: "1"}, api.Datum{Kind: api.Null}
	checkOf(t, api.Datum{Kind: api.Context}, value.Context(nil, nil))
	checkOf(t, api.Datum{Kind: api.Context, Names: []string{"b", "a", ""}, Items: []api.Datum{one, null, {Kind: api.Context}}}, value.Context([]string{"b", "a", ""}, []value.Value{value.Int(1), {}, value.Context(nil, nil)}))
	for _, x := range []struct {
		names []string
		items []api.Datum
	}{
		{[]string{"a"}, nil},
		{nil, []api.Datum{one}},
		{[]string{"a"}, []api.Datum{one, one}},
		{[]string{"a", "b"}, []api.Datum{one}},
		{[]string{"a", "a"}, []api.Datum{one, one}},
		{[]string{"", ""}, []api.Datum{null, null}},
		{[]string{"a", "b", "a"}, []api.Datum{one, null, one}},
		{[]string{"\xff"}, []api.Datum{one}},
		{[]string{"a", "\xed\xa0\x80"}, []api.Datum{one, one}},
	} {
		checkNone(t, api.Datum{Kind: api.Context, Names: x.names, Items: x.items})
	}
}

func TestP114Ranges(t *testing.T) {
	null := api.Datum{Kind: api.Null}
	num1, num2 := api.Datum{Kind: api.Number, Text: "1"}, api.Datum{Kind: api.Number, Text: "2"}
	text, yes, list := api.Datum{Kind: api.String, Text: "1"}, api.Datum{Kind: api.Boolean, Text: "true"}, api.Datum{Kind: api.List}
	for _, in := range ins() {
		checkOf(t, api.Datum{Kind: api.Range, Items: []api.Datum{num1, num2}, In: in}, value.Range(value.Int(1), value.Int(2), in))
		checkOf(t, api.Datum{Kind: api.Range, Items: []api.Datum{num2, num1}, In: in}, value.Range(value.Int(2), value.Int(1), in))
		checkOf(t, api.Datum{Kind: api.Range, Items: []api.Datum{num1, null}, In: in}, value.Range(value.Int(1), value.Value{}, [2]bool{in[0], false}))
		checkOf(t, api.Datum{Kind: api.Range, Items: []api.Datum{null, num1}, In: in}, value.Range(value.Value{}, value.Int(1), [2]bool{false, in[1]}))
		checkOf(t, api.Datum{Kind: api.Range, Items: []api.Datum{null, null}, In: in}, value.Range(value.Value{}, value.Value{}, [2]bool{}))
		for _, items := range [][]api.Datum{
			nil, {}, {num1}, {null}, {num1, num2, num2}, {null, null, null}, {num1, num2, null},
			{num1, text}, {text, num1}, {yes, yes}, {yes, null}, {null, yes}, {list, list}, {null, list}, {list, null},
			{{Kind: api.Days, Text: "PT1M"}, {Kind: api.Months, Text: "P1M"}}, {{Kind: api.Date, Text: "2024-01-01"}, {Kind: api.DateTime, Text: "2024-01-01T00:00:00"}},
			{{Kind: api.Range, Items: []api.Datum{num1, num2}}, null}, {{Kind: api.Function}, null}, {{}, {}},
		} {
			checkNone(t, api.Datum{Kind: api.Range, Items: items, In: in})
		}
	}
}

// What is handed in stays as it was, and may be changed afterwards.
func TestP114OfIsItsOwn(t *testing.T) {
	d := api.Datum{Kind: api.Context, Names: []string{"a", "b"}, Items: []api.Datum{{Kind: api.List, Items: []api.Datum{{Kind: api.Number, Text: "1"}}}, {Kind: api.Range, Items: []api.Datum{{Kind: api.Null}, {Kind: api.Null}}, In: [2]bool{true, true}}}}
	v, ok := value.Of(d)
	before := told(v)
	if !ok || d.Names[0] != "a" || d.Items[1].In != [2]bool{true, true} {
		t.Fatal(d, ok)
	}
	d.Names[0] = "z"
	d.Items[0].Items[0].Text = "9"
	d.Items[1] = api.Datum{}
	if told(v) != before {
		t.Error("the value was changed to", told(v))
	}
}

func TestP114Deep(t *testing.T) {
	const n = 1 << 16
	nest := func(d api.Datum) api.Datum {
		for range n {
			d = api.Datum{Kind: api.List, Items: []api.Datum{d}}
		}
		return d
	}
	if v, ok := value.Of(nest(api.Datum{Kind: api.Number, Text: "1"})); !ok || v.Kind() != api.List {
		t.Error("a deep list tells nothing")
	}
	for _, last := range []api.Datum{{}, {Kind: api.Function}, {Kind: api.Number, Text: "x"}, {Kind: api.Range}} {
		if v, ok := value.Of(nest(last)); ok || !v.Null() {
			t.Errorf("a deep list of %v tells something", last)
		}
	}
}

// someDatum is a datum that may tell something, or is short of that by a little.
func someDatum(r *rand.Rand) api.Datum {
	d, ok := someThing(r, 3).datum()
	if !ok {
		return api.Datum{Kind: api.Function}
	}
	for range r.Intn(3) {
		spoil(r, &d)
	}
	return d
}

func spoil(r *rand.Rand, d *api.Datum) {
	if len(d.Items) > 0 && r.Intn(2) == 0 {
		spoil(r, &d.Items[r.Intn(len(d.Items))])
		return
	}
	texts := []string{"", "true", "false", "1", "-1.0", "1E3", "2024-02-29", "10:20:30", "2024-02-29T10:20:30Z", "P1D", "P1M", "\xff", "x"}
	names := []string{"", "a", "b", "n", "\xff", "0", "1"}
	switch r.Intn(9) {
	case 0:
		d.Kind = api.Kind(r.Intn(17) - 1)
	case 1, 2:
		d.Text = pick(r, texts)
	case 3:
		d.Items = append(d.Items, api.Datum{Kind: api.Null})
	case 4:
		d.Items = d.Items[:len(d.Items)/2]
	case 5:
		d.Names = append(d.Names, pick(r, names))
	case 6:
		d.Names = d.Names[:len(d.Names)/2]
	case 7:
		if len(d.Names) > 0 {
			d.Names[r.Intn(len(d.Names))] = pick(r, names)
		}
	case 8:
		d.In[r.Intn(2)] = r.Intn(2) == 0
	}
}

func checkOfByTheWords(t *testing.T, d api.Datum) bool {
	t.Helper()
	want, may := ofModel(d)
	v, ok := value.Of(d)
	if !may {
		want = thing{kind: api.Null}
	}
	if ok != may || told(v) != want.told() {
		t.Errorf("Of(%.200v) = %.200s, %v, not %.200s, %v", d, told(v), ok, want.told(), may)
	}
	return may
}

func TestP114ByTheWords(t *testing.T) {
	r := rand.New(rand.NewSource(114))
	const all = 60000
	right := 0
	for range all {
		if checkOfByTheWords(t, someDatum(r)) {
			right++
		}
	}
	if right < all/10 || right > all*9/10 {
		t.Errorf("of %d data %d tell something: the test holds too little", all, right)
	}
}

// anyDatum has anything in any of its fields.
func anyDatum(r *rand.Rand, deep int) api.Datum {
	const signs = "0123456789-.EPTDHMSYZ:+truefals\xff\xc3\xa9 "
	some := func() string {
		b := make([]byte, r.Intn(12))
		for i := range b {
			b[i] = signs[r.Intn(len(signs))]
		}
		return string(b)
	}
	d := api.Datum{Kind: api.Kind(r.Intn(18) - 2), In: [2]bool{r.Intn(2) == 0, r.Intn(2) == 0}}
	if r.Intn(2) == 0 {
		d.Text = some()
	}
	for range r.Intn(4) * r.Intn(2) {
		d.Names = append(d.Names, some())
	}
	if deep > 0 {
		for range r.Intn(4) * r.Intn(2) {
			d.Items = append(d.Items, anyDatum(r, deep-1))
		}
	}
	return d
}

// Whatever comes in, each call ends and goes by the words.
func TestW1AnyData(t *testing.T) {
	r := rand.New(rand.NewSource(115))
	for range 100000 {
		checkOfByTheWords(t, anyDatum(r, 3))
	}
}

func TestW1AnyValues(t *testing.T) {
	r := rand.New(rand.NewSource(116))
	for range 20000 {
		var vs []value.Value
		var names []string
		for range r.Intn(4) {
			v, _ := value.Of(anyDatum(r, 2))
			vs = append(vs, v, value.Func(v, r.Int()), value.Num(dec.Dec{Neg: r.Intn(2) == 0, Exp: int(r.Uint64())}), value.Date(on(int(r.Uint64()), r.Intn(14), r.Intn(33))))
			names = append(names, anyDatum(r, 0).Text)
		}
		l, c := value.List(vs...), value.Context(names, vs[:min(len(vs), r.Intn(5))])
		for _, v := range append(vs, l, c) {
			told(v)
			v.Entry("a")
			value.Plain(v)
			value.Plain(value.Range(v, l, [2]bool{true, true}))
			if d, ok := value.Plain(value.Range(v, v, [2]bool{true, true})); !ok {
				t.Error("a range has a function in it:", d)
			}
		}
	}
}
