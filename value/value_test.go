package value_test

import (
	"math"
	"strings"
	"testing"

	"casuist/api"
	"casuist/civil"
	"casuist/clock"
	"casuist/dec"
	"casuist/moment"
	"casuist/value"
)

// check holds a value against what it was made of: its own kind's question tells that, any other one nothing.
func check(t *testing.T, v value.Value, want thing) {
	t.Helper()
	if got := told(v); got != want.told() {
		t.Errorf("a value tells %.300s, not %.300s", got, want.told())
	}
}

func checkNull(t *testing.T, v value.Value, of any) {
	t.Helper()
	if !v.Null() || v.Kind() != api.Null {
		t.Errorf("the value of %.100v is of kind %d, not null", of, v.Kind())
	}
	check(t, v, thing{kind: api.Null})
}

func TestP111Null(t *testing.T) {
	var v value.Value
	checkNull(t, v, "nothing")
	if api.Null != 1 {
		t.Error("a kind of 0 is not Null")
	}
}

func TestP111Bool(t *testing.T) {
	for _, b := range []bool{true, false} {
		v := value.Bool(b)
		check(t, v, thing{kind: api.Boolean, flag: b})
		if got, ok := v.AsBool(); got != b || !ok || v.Kind() != api.Boolean || v.Null() {
			t.Errorf("Bool(%v) is %v, %v, of kind %d", b, got, ok, v.Kind())
		}
	}
}

func TestP111Num(t *testing.T) {
	for _, d := range edgeNums() {
		v := value.Num(d)
		check(t, v, thing{kind: api.Number, num: d})
		if got, ok := v.AsNum(); got != d || !ok || v.Kind() != api.Number || v.Null() {
			t.Errorf("Num(%s) is %s, %v, of kind %d", toldNum(d), toldNum(got), ok, v.Kind())
		}
	}
	for _, d := range noNums() {
		checkNull(t, value.Num(d), d)
	}
}

func TestP111Int(t *testing.T) {
	for _, n := range []int{0, 1, -1, 7, -7, 10, -10, 1000000, 1 << 31, -1 << 31, 1<<32 - 1, most, -most, most + 1, 1 << 62, math.MaxInt - 1, math.MaxInt, math.MinInt + 1, math.MinInt} {
		v := value.Int(n)
		check(t, v, thing{kind: api.Number, num: dec.Int(n)})
		if got, ok := v.AsInt(); got != n || !ok || v.Kind() != api.Number {
			t.Errorf("Int(%d) is %d, %v, of kind %d", n, got, ok, v.Kind())
		}
		if d, ok := v.AsNum(); !ok || d.Exp != 0 {
			t.Errorf("Int(%d) is %s, %v", n, toldNum(d), ok)
		}
	}
	for n, digits := range map[int]string{0: "0", -10: "-10", math.MaxInt: "9223372036854775807", math.MinInt: "-9223372036854775808"} {
		if d, ok := value.Int(n).AsNum(); d != num(digits, 0) || !ok {
			t.Errorf("Int(%d) is %s, %v", n, toldNum(d), ok)
		}
	}
}

func TestP111AsInt(t *testing.T) {
	for _, x := range []struct {
		d    dec.Dec
		want int
		may  bool
	}{
		{num("100", -2), 1, true},
		{num("-2500", -2), -25, true},
		{num("25", 2), 2500, true},
		{num("0", 6111), 0, true},
		{num("0", -6176), 0, true},
		{num("9223372036854775807", 0), math.MaxInt, true},
		{num("-9223372036854775808", 0), math.MinInt, true},
		{num("92233720368547758070", -1), math.MaxInt, true},
		{num("1", 18), 1000000000000000000, true},
		{num("150", -2), 0, false},
		{num("-5", -1), 0, false},
		{num("1", -6176), 0, false},
		{num("9223372036854775808", 0), 0, false},
		{num("-9223372036854775809", 0), 0, false},
		{num("1", 19), 0, false},
		{num("18446744073709551617", 0), 0, false},
		{num(nines34, 6111), 0, false},
	} {
		if got, ok := value.Num(x.d).AsInt(); got != x.want || ok != x.may {
			t.Errorf("AsInt of %s = %d, %v", toldNum(x.d), got, ok)
		}
	}
	for _, v := range []value.Value{{}, value.Bool(true), value.Text("1"), value.Days(1), value.Months(1), value.List(value.Int(1)), value.Func(1, 1)} {
		if got, ok := v.AsInt(); got != 0 || ok {
			t.Errorf("AsInt of %s = %d, %v", told(v), got, ok)
		}
	}
}

func TestP111Text(t *testing.T) {
	for _, s := range edgeTexts() {
		v := value.Text(s)
		check(t, v, thing{kind: api.String, text: s})
		if got, ok := v.AsText(); got != s || !ok || v.Kind() != api.String || v.Null() {
			t.Errorf("Text(%.40q) is %.40q, %v, of kind %d", s, got, ok, v.Kind())
		}
	}
	for _, s := range notUTF8() {
		checkNull(t, value.Text(s), s)
	}
}

func TestP111TextOfTheMost(t *testing.T) {
	for _, sign := range []string{"x", "\u00e9", "\U0001f600"} {
		s := strings.Repeat(sign, 1048576/len(sign))
		check(t, value.Text(s), thing{kind: api.String, text: s})
		checkNull(t, value.Text(s+"x"), "one byte too many")
		checkNull(t, value.Text("x"+s), "one byte too many")
		checkNull(t, value.Text(s+s), "twice as many bytes")
	}
	// It is bytes that are counted, not signs; of three bytes a sign the last one must leave one over.
	s := strings.Repeat("\u20ac", 349525)
	check(t, value.Text(s), thing{kind: api.String, text: s})
	check(t, value.Text(s+"x"), thing{kind: api.String, text: s + "x"})
	checkNull(t, value.Text(s+"xx"), "one byte too many")
	checkNull(t, value.Text(s+"\xe2"), "a sign cut off at the end")
}

func TestP111Date(t *testing.T) {
	for _, d := range edgeDays() {
		v := value.Date(d)
		check(t, v, thing{kind: api.Date, day: d})
		if got, ok := v.AsDate(); got != d || !ok || v.Kind() != api.Date || v.Null() {
			t.Errorf("Date(%v) is %v, %v, of kind %d", d, got, ok, v.Kind())
		}
	}
	for _, d := range noDays() {
		checkNull(t, value.Date(d), d)
	}
}

func TestP111Time(t *testing.T) {
	for _, x := range edgeTimes() {
		v := value.Time(x)
		check(t, v, thing{kind: api.Time, at: x})
		if got, ok := v.AsTime(); got != x || !ok || v.Kind() != api.Time || v.Null() {
			t.Errorf("Time(%v) is %v, %v, of kind %d", x, got, ok, v.Kind())
		}
	}
	for _, x := range noTimes() {
		checkNull(t, value.Time(x), x)
	}
}

func TestP111Moment(t *testing.T) {
	for _, d := range edgeDays() {
		for _, x := range edgeTimes() {
			m := moment.Moment{Date: d, Time: x}
			v := value.Moment(m)
			check(t, v, thing{kind: api.DateTime, day: d, at: x})
			if got, ok := v.AsMoment(); got != m || !ok || v.Kind() != api.DateTime || v.Null() {
				t.Errorf("Moment(%v) is %v, %v, of kind %d", m, got, ok, v.Kind())
			}
		}
		for _, x := range noTimes() {
			checkNull(t, value.Moment(moment.Moment{Date: d, Time: x}), x)
		}
	}
	for _, d := range noDays() {
		for _, x := range append(edgeTimes(), noTimes()...) {
			checkNull(t, value.Moment(moment.Moment{Date: d, Time: x}), d)
		}
	}
}

func TestP111Durations(t *testing.T) {
	for _, n := range edgeSpans() {
		check(t, value.Days(n), thing{kind: api.Days, n: n})
		check(t, value.Months(n), thing{kind: api.Months, n: n})
		if got, ok := value.Days(n).AsDays(); got != n || !ok || value.Days(n).Kind() != api.Days {
			t.Errorf("Days(%d) is %d, %v", n, got, ok)
		}
		if got, ok := value.Months(n).AsMonths(); got != n || !ok || value.Months(n).Kind() != api.Months {
			t.Errorf("Months(%d) is %d, %v", n, got, ok)
		}
		if got, ok := value.Days(n).AsMonths(); got != 0 || ok {
			t.Errorf("Days(%d) is %d months, %v", n, got, ok)
		}
		if got, ok := value.Months(n).AsDays(); got != 0 || ok {
			t.Errorf("Months(%d) is %d days, %v", n, got, ok)
		}
	}
	for _, n := range tooLong() {
		checkNull(t, value.Days(n), n)
		checkNull(t, value.Months(n), n)
	}
}

// one is a value of each kind, each of which has something in it that is not zero.
func one() map[api.Kind]value.Value {
	return map[api.Kind]value.Value{
		api.Null:     {},
		api.Boolean:  value.Bool(true),
		api.Number:   value.Int(1),
		api.String:   value.Text("a"),
		api.Date:     value.Date(on(2024, 2, 29)),
		api.Time:     value.Time(zoned(1, 3600)),
		api.DateTime: value.Moment(moment.Moment{Date: on(2024, 2, 29), Time: zoned(1, 3600)}),
		api.Days:     value.Days(1),
		api.Months:   value.Months(1),
		api.List:     value.List(value.Int(1)),
		api.Context:  value.Context([]string{"a"}, []value.Value{value.Int(1)}),
		api.Range:    value.Range(value.Int(1), value.Int(2), [2]bool{true, true}),
		api.Function: value.Func("code", 2),
	}
}

func TestP111AskedAsEachKind(t *testing.T) {
	for kind, v := range one() {
		if v.Kind() != kind || v.Null() != (kind == api.Null) {
			t.Errorf("a value of kind %d is of kind %d, Null %v", kind, v.Kind(), v.Null())
		}
		b, isBool := v.AsBool()
		d, isNum := v.AsNum()
		n, isInt := v.AsInt()
		s, isText := v.AsText()
		day, isDate := v.AsDate()
		at, isTime := v.AsTime()
		m, isMoment := v.AsMoment()
		seconds, isDays := v.AsDays()
		months, isMonths := v.AsMonths()
		vs, isList := v.AsList()
		names, items, isContext := v.AsContext()
		ends, in, isRange := v.AsRange()
		code, takes, isFunc := v.AsFunc()
		for k, is := range map[api.Kind]bool{api.Boolean: isBool, api.Number: isNum && isInt, api.String: isText, api.Date: isDate, api.Time: isTime, api.DateTime: isMoment, api.Days: isDays, api.Months: isMonths, api.List: isList, api.Context: isContext, api.Range: isRange, api.Function: isFunc} {
			if is != (k == kind) {
				t.Errorf("a value of kind %d, asked as one of kind %d, answers %v", kind, k, is)
			}
		}
		for k, zero := range map[api.Kind]bool{
			api.Boolean: !b, api.Number: d == dec.Dec{} && n == 0, api.String: s == "", api.Date: day == civil.Date{}, api.Time: at == clock.Time{}, api.DateTime: m == moment.Moment{}, api.Days: seconds == 0, api.Months: months == 0,
			api.List: len(vs) == 0, api.Context: len(names) == 0 && len(items) == 0, api.Range: ends[0].Null() && ends[1].Null() && in == [2]bool{}, api.Function: code == nil && takes == 0,
		} {
			if zero != (k != kind) {
				t.Errorf("a value of kind %d, asked as one of kind %d, tells something: %v", kind, k, !zero)
			}
		}
	}
}
