package value_test

import (
	"fmt"
	"math"
	"slices"
	"strconv"
	"strings"
	"testing"

	"casuist/api"
	"casuist/moment"
	"casuist/value"
)

func ints(ns ...int) []value.Value {
	var out []value.Value
	for _, n := range ns {
		out = append(out, value.Int(n))
	}
	return out
}

// checkItems holds a list's items, by what each tells.
func checkItems(t *testing.T, v value.Value, want ...value.Value) {
	t.Helper()
	got, ok := v.AsList()
	if !ok || v.Kind() != api.List || toldAll(got) != toldAll(want) {
		t.Errorf("a list of %s is %v, %s", toldAll(want), ok, toldAll(got))
	}
}

// checkContext holds a context's names and what stands by them.
func checkContext(t *testing.T, v value.Value, names []string, items []value.Value) {
	t.Helper()
	gotNames, got, ok := v.AsContext()
	if !ok || v.Kind() != api.Context || !slices.Equal(gotNames, names) || toldAll(got) != toldAll(items) {
		t.Errorf("a context of %.200q, %.200s is %v, %.200q, %.200s", names, toldAll(items), ok, gotNames, toldAll(got))
	}
	for i, name := range names {
		if e, ok := v.Entry(name); !ok || told(e) != told(items[i]) {
			t.Errorf("by %.100q a context has %s, %v", name, told(e), ok)
		}
	}
}

func checkNoEntry(t *testing.T, v value.Value, name string) {
	t.Helper()
	if e, ok := v.Entry(name); ok || !e.Null() {
		t.Errorf("%.200s has %s by %.100q, %v", told(v), told(e), name, ok)
	}
}

func TestP112List(t *testing.T) {
	checkItems(t, value.List())
	checkItems(t, value.List([]value.Value{}...))
	checkItems(t, value.List([]value.Value(nil)...))
	checkItems(t, value.List(value.Value{}), value.Value{})
	checkItems(t, value.List(value.Value{}, value.Value{}), value.Value{}, value.Value{})
	checkItems(t, value.List(ints(3, 1, 2)...), ints(3, 1, 2)...)
	checkItems(t, value.List(ints(1, 1)...), ints(1, 1)...)
	checkItems(t, value.List(value.List()), value.List())
	checkItems(t, value.List(value.Int(1), value.Text("a"), value.Bool(false)), value.Int(1), value.Text("a"), value.Bool(false))
	if value.List().Null() || value.List(value.Value{}).Null() {
		t.Error("a list is null")
	}
	for _, v := range one() {
		checkItems(t, value.List(v), v)
		checkItems(t, value.List(v, value.List(v, v)), v, value.List(v, v))
	}
}

// A list is of what was handed in then, whatever becomes of the slice; and so is what is answered.
func TestP112ListIsItsOwn(t *testing.T) {
	vs := append(make([]value.Value, 0, 10), ints(1, 2, 3)...)
	l := value.List(vs...)
	vs[0] = value.Text("a")
	_ = append(vs[:1], value.Text("b"))
	checkItems(t, l, ints(1, 2, 3)...)
	got, _ := l.AsList()
	got[2] = value.Value{}
	_ = append(got[:1], value.Text("c"))
	_ = append(got, value.Text("d"))
	checkItems(t, l, ints(1, 2, 3)...)
}

func TestP112LongList(t *testing.T) {
	vs := make([]value.Value, 3*65536)
	for i := range vs {
		vs[i] = value.Int(i)
	}
	got, ok := value.List(vs...).AsList()
	if !ok || len(got) != len(vs) {
		t.Fatal(len(got), ok)
	}
	for i, v := range got {
		if n, ok := v.AsInt(); n != i || !ok {
			t.Fatal(i, n, ok)
		}
	}
}

func TestP112Context(t *testing.T) {
	checkContext(t, value.Context(nil, nil), nil, nil)
	checkContext(t, value.Context([]string{}, []value.Value{}), nil, nil)
	checkContext(t, value.Context(nil, []value.Value{}), nil, nil)
	for _, names := range [][]string{
		{""},
		{"a"},
		{"a", "b"},
		{"b", "a"},
		{"", "a", " "},
		{"a", "A", "aa", "a ", " a"},
		{"\u00e9", "e\u0301", "e"},
		{"1", "01", "1.0", "item", "null", "two words"},
		{"\x00", "\x00\x00", "\U0001f600", "\ufffd"},
		{strings.Repeat("x", 1048577), strings.Repeat("x", 1048576)},
	} {
		items := ints(1, 2, 3, 4, 5, 6)[:len(names)]
		checkContext(t, value.Context(names, items), names, items)
		nulls := make([]value.Value, len(names))
		checkContext(t, value.Context(names, nulls), names, nulls)
	}
	for _, v := range one() {
		checkContext(t, value.Context([]string{"a", "b"}, []value.Value{v, value.List(v)}), []string{"a", "b"}, []value.Value{v, value.List(v)})
		inner := value.Context([]string{"a"}, []value.Value{v})
		checkContext(t, value.Context([]string{"a"}, []value.Value{inner}), []string{"a"}, []value.Value{inner})
	}
}

func TestP112NoContext(t *testing.T) {
	for _, x := range []struct {
		names []string
		n     int
	}{
		{nil, 1},
		{[]string{"a"}, 0},
		{[]string{""}, 0},
		{[]string{"a"}, 2},
		{[]string{"a", "b"}, 1},
		{[]string{"a", "b", "c"}, 2},
		{[]string{"a", "b", "c"}, 4},
		{[]string{"a", "a"}, 1},
		{[]string{"a", "a"}, 2},
		{[]string{"", ""}, 2},
		{[]string{"a", "b", "a"}, 3},
		{[]string{"b", "a", "a"}, 3},
		{[]string{"a", "a", "a"}, 3},
		{[]string{"a", "b", "c", "d", "b"}, 5},
		{[]string{strings.Repeat("x", 100), strings.Repeat("x", 100)}, 2},
	} {
		checkNull(t, value.Context(x.names, ints(1, 2, 3, 4, 5)[:x.n]), x)
		checkNull(t, value.Context(x.names, make([]value.Value, x.n)), x)
	}
	for _, s := range notUTF8() {
		checkNull(t, value.Context([]string{s}, ints(1)), s)
		checkNull(t, value.Context([]string{"a", s}, ints(1, 2)), s)
		checkNull(t, value.Context([]string{s, "a", "b"}, ints(1, 2, 3)), s)
	}
}

func TestP112ContextIsItsOwn(t *testing.T) {
	names, items := append(make([]string, 0, 10), "a", "b"), append(make([]value.Value, 0, 10), ints(1, 2)...)
	c := value.Context(names, items)
	names[0], items[0] = "b", value.Text("x")
	_, _ = append(names[:1], "z"), append(items[:1], value.Text("z"))
	checkContext(t, c, []string{"a", "b"}, ints(1, 2))
	checkNoEntry(t, c, "z")
	gotNames, got, _ := c.AsContext()
	gotNames[0], got[1] = "c", value.Value{}
	_, _ = append(gotNames[:1], "z"), append(got[:1], value.Text("z"))
	checkContext(t, c, []string{"a", "b"}, ints(1, 2))
	checkNoEntry(t, c, "c")
}

func TestP112WideContext(t *testing.T) {
	const n = 1 << 17
	names, items := make([]string, n), make([]value.Value, n)
	for i := range n {
		// Neither rising nor falling, and of many lengths.
		names[i], items[i] = strconv.Itoa(i*7919%n), value.Int(i)
	}
	c := value.Context(names, items)
	got, _, ok := c.AsContext()
	if !ok || !slices.Equal(got, names) {
		t.Fatal("other names than handed in")
	}
	for i, name := range names {
		e, ok := c.Entry(name)
		if at, is := e.AsInt(); !ok || !is || at != i {
			t.Fatalf("by %q stands %s, %v, not %d", name, told(e), ok, i)
		}
	}
	checkNoEntry(t, c, strconv.Itoa(n))
	names[n-1] = names[0]
	checkNull(t, value.Context(names, items), "the last name is the first one")
	names[n-1] = "x"
	names[n/2] = names[n/2-1]
	checkNull(t, value.Context(names, items), "two names in the middle are the same")
}

func TestP112Entry(t *testing.T) {
	inner := value.Context([]string{"deep"}, ints(9))
	c := value.Context([]string{"a", "nothing", "", "c"}, []value.Value{value.Int(1), {}, value.Text("empty"), inner})
	if e, ok := c.Entry("a"); !ok || told(e) != told(value.Int(1)) {
		t.Error(told(e), ok)
	}
	if e, ok := c.Entry("nothing"); !ok || !e.Null() {
		t.Error("null that is there:", told(e), ok)
	}
	if e, ok := c.Entry(""); !ok || told(e) != told(value.Text("empty")) {
		t.Error("the empty name:", told(e), ok)
	}
	if e, ok := c.Entry("c"); !ok || told(e) != told(inner) {
		t.Error(told(e), ok)
	}
	for _, name := range append(notUTF8(), "b", "A", "a ", " ", "aa", "deep", "c.deep", "\x00") {
		checkNoEntry(t, c, name)
		checkNoEntry(t, value.Context(nil, nil), name)
	}
	checkNoEntry(t, value.Context([]string{"a"}, ints(1)), "")
	for kind, v := range one() {
		if kind == api.Context {
			continue
		}
		for _, name := range []string{"", "a", "start", "year", "\xff"} {
			checkNoEntry(t, v, name)
		}
	}
	// Of a list of contexts nothing is taken.
	checkNoEntry(t, value.List(c), "a")
	checkNoEntry(t, value.Context([]string{"a", "a"}, ints(1, 2)), "a")
}

func TestP112Ordered(t *testing.T) {
	for _, k := range kinds() {
		if got := value.Ordered(k); got != orderedModel(k) {
			t.Errorf("Ordered(%d) is %v", k, got)
		}
	}
	for _, k := range []api.Kind{api.Number, api.String, api.Date, api.Time, api.DateTime, api.Days, api.Months} {
		if !value.Ordered(k) {
			t.Errorf("Ordered(%d) is false", k)
		}
	}
	for _, k := range []api.Kind{0, api.Null, api.Boolean, api.List, api.Context, api.Range, api.Function, api.Any, -1, 15, math.MaxInt, math.MinInt} {
		if value.Ordered(k) {
			t.Errorf("Ordered(%d) is true", k)
		}
	}
}

func ins() [][2]bool { return [][2]bool{{false, false}, {false, true}, {true, false}, {true, true}} }

func checkRange(t *testing.T, lo, hi value.Value, in, want [2]bool) {
	t.Helper()
	r := value.Range(lo, hi, in)
	ends, got, ok := r.AsRange()
	if !ok || r.Kind() != api.Range || r.Null() || got != want || told(ends[0]) != told(lo) || told(ends[1]) != told(hi) {
		t.Errorf("Range(%.100s, %.100s, %v) is %v, %.200s, %v, not %v", told(lo), told(hi), in, ok, toldAll(ends[:]), got, want)
	}
}

func TestP112Range(t *testing.T) {
	null := value.Value{}
	for kind, v := range one() {
		if !orderedModel(kind) {
			continue
		}
		for _, in := range ins() {
			checkRange(t, v, v, in, in)
			checkRange(t, v, null, in, [2]bool{in[0], false})
			checkRange(t, null, v, in, [2]bool{false, in[1]})
			checkRange(t, null, null, in, [2]bool{})
		}
	}
	for _, in := range ins() {
		for _, x := range [][2]value.Value{
			{value.Int(1), value.Int(10)},
			{value.Int(10), value.Int(1)},
			{value.Num(num("10", -1)), value.Num(num("100", -2))},
			{value.Text("a"), value.Text("b")},
			{value.Text("b"), value.Text("a")},
			{value.Text(""), value.Text("")},
			{value.Date(on(2024, 1, 1)), value.Date(on(2023, 1, 1))},
			// Of these neither is ahead of the other one.
			{value.Time(plainTime(0)), value.Time(zoned(0, 0))},
			{value.Moment(moment.Moment{Date: on(2024, 1, 1)}), value.Moment(moment.Moment{Date: on(2024, 1, 1), Time: zoned(0, 0)})},
			{value.Days(-most), value.Days(most)},
			{value.Months(most), value.Months(-most)},
			{value.Days(0), value.Days(0)},
		} {
			checkRange(t, x[0], x[1], in, in)
		}
	}
}

func TestP112NoRange(t *testing.T) {
	null := value.Value{}
	all := one()
	for a, x := range all {
		for b, y := range all {
			if a == api.Null && b == api.Null || orderedModel(a) && (a == b || b == api.Null) || orderedModel(b) && a == api.Null {
				continue
			}
			for _, in := range ins() {
				checkNull(t, value.Range(x, y, in), fmt.Sprint(a, " to ", b))
			}
		}
	}
	for _, in := range ins() {
		checkNull(t, value.Range(value.Int(1), value.Text("a"), in), in)
		checkNull(t, value.Range(value.Int(1), value.Text("1"), in), in)
		checkNull(t, value.Range(value.Days(1), value.Months(1), in), in)
		checkNull(t, value.Range(value.Date(on(2024, 1, 1)), value.Moment(moment.Moment{Date: on(2024, 1, 1)}), in), in)
		checkNull(t, value.Range(value.Bool(false), value.Bool(true), in), in)
		checkNull(t, value.Range(null, value.Bool(true), in), in)
		checkNull(t, value.Range(value.List(), null, in), in)
		checkNull(t, value.Range(null, value.Context(nil, nil), in), in)
		checkNull(t, value.Range(value.Range(null, null, in), null, in), in)
		checkNull(t, value.Range(value.Func(nil, 0), value.Func(nil, 0), in), in)
		// What may not be is null, and so is open.
		checkRange(t, value.Text("\xff"), value.Int(1), in, [2]bool{false, in[1]})
	}
}

func TestP112RangeIsItsOwn(t *testing.T) {
	r := value.Range(value.Int(1), value.Int(2), [2]bool{true, true})
	ends, in, _ := r.AsRange()
	ends[0], in[0] = value.Value{}, false
	checkRange(t, value.Int(1), value.Int(2), [2]bool{true, true}, [2]bool{true, true})
	if got, in, ok := r.AsRange(); !ok || told(got[0]) != told(value.Int(1)) || !in[0] {
		t.Error(told(r))
	}
}

func TestP112Func(t *testing.T) {
	called := 0
	code := func(n int) int { called++; return n + called }
	pointer := &called
	for _, takes := range []int{0, 1, 2, 100, -1, math.MaxInt, math.MinInt} {
		f := value.Func(code, takes)
		got, n, ok := f.AsFunc()
		if is, right := got.(func(int) int); !ok || n != takes || f.Kind() != api.Function || f.Null() || !right || is(1) != 1+called {
			t.Errorf("a function that takes %d is of kind %d, takes %d, %v", takes, f.Kind(), n, ok)
		}
		for _, code := range []any{nil, 0, "code", pointer, [2]int{1, 2}, value.Value{}, value.Int(1), api.Null, true} {
			if got, n, ok := value.Func(code, takes).AsFunc(); !ok || n != takes || got != code {
				t.Errorf("a function that takes %d and is %v takes %d and is %v, %v", takes, code, n, got, ok)
			}
		}
		// Something that can't be held against itself is a function's code like any other.
		if got, _, ok := value.Func([]int{1, 2}, takes).AsFunc(); !ok || !slices.Equal(got.([]int), []int{1, 2}) {
			t.Error(got, ok)
		}
	}
}

func TestP112FuncWithin(t *testing.T) {
	f := value.Func("code", 2)
	l := value.List(value.Int(1), f, value.Context([]string{"f"}, []value.Value{f}))
	items, ok := l.AsList()
	if !ok || len(items) != 3 {
		t.Fatal(told(l))
	}
	if code, n, ok := items[1].AsFunc(); !ok || code != "code" || n != 2 {
		t.Error(code, n, ok)
	}
	e, _ := items[2].Entry("f")
	if code, n, ok := e.AsFunc(); !ok || code != "code" || n != 2 {
		t.Error(code, n, ok)
	}
}

// A function's code is not taken for what it may look like.
func TestP112FuncIsNothingElse(t *testing.T) {
	for _, code := range []any{true, 7, "a", value.Text("a"), []value.Value{value.Int(1)}, on(2024, 1, 1), zoned(1, 1), num("15", -1), moment.Moment{}} {
		f := value.Func(code, 1)
		want := fmt.Sprintf("<%d false function %T %v 1>", api.Function, code, code)
		if got := told(f); got != want {
			t.Errorf("a function tells %s, not %s", got, want)
		}
	}
}
