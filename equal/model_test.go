package equal_test

import (
	"bytes"
	"cmp"
	"fmt"
	"math"
	"math/big"
	"slices"
	"strings"
	"testing"
	"time"

	"casuist/api"
	"casuist/civil"
	"casuist/clock"
	"casuist/dec"
	"casuist/equal"
	"casuist/moment"
	"casuist/value"
	"casuist/wide"
)

// What the chapter's words say, done plainly, for the tests to hold the package against: numbers by math/big, moments by package time.

const most = 1 << 53

func TestLimits(t *testing.T) {
	if api.Unknown != 0 || api.No != 1 || api.Yes != 2 || api.MaxSpan != most || api.MaxExp != 6111 || api.MinExp != -6176 || api.MaxYear != 999999999 || api.MaxOffset != 64800 {
		t.Error("the tests of this package are written for other limits")
	}
}

// truths are the three, and some that are none of them.
func truths() []api.Truth {
	return []api.Truth{api.Unknown, api.No, api.Yes, -1, 3, 4, -2, 256, 1 << 32, 1<<32 + 1, 1<<32 + 2, math.MaxInt, math.MinInt}
}

// rank puts the truths in a row, from No to Yes: what is known of all of some is the lowest one, of one of some the highest one.
func rank(t api.Truth) int {
	switch t {
	case api.No:
		return -1
	case api.Yes:
		return 1
	}
	return 0
}

func ranked(n int) api.Truth { return map[int]api.Truth{-1: api.No, 1: api.Yes}[n] }

func all(ts ...api.Truth) api.Truth {
	low := 1
	for _, t := range ts {
		low = min(low, rank(t))
	}
	return ranked(low)
}

func some(ts ...api.Truth) api.Truth {
	high := -1
	for _, t := range ts {
		high = max(high, rank(t))
	}
	return ranked(high)
}

func yesIf(b bool) api.Truth {
	if b {
		return api.Yes
	}
	return api.No
}

// thing is the tests' own picture of a value.
type thing struct {
	kind  api.Kind // 0 counts as Null
	flag  bool
	num   dec.Dec
	text  string
	day   civil.Date
	at    clock.Time
	n     int // of a duration how long it is; of a function how many it takes
	names []string
	items []thing
	in    [2]bool
}

func null() thing { return thing{kind: api.Null} }

func boolean(b bool) thing { return thing{kind: api.Boolean, flag: b} }

// num is a number of those digits, with that exponent; a - may stand ahead.
func num(digits string, exp int) thing {
	digits, neg := strings.CutPrefix(digits, "-")
	x, ok := new(big.Int).SetString(digits, 10)
	if !ok {
		panic("no digits: " + digits)
	}
	word := new(big.Int).SetUint64(math.MaxUint64)
	lo := new(big.Int).And(x, word).Uint64()
	return thing{kind: api.Number, num: dec.Dec{Neg: neg, Coef: wide.U{Hi: x.Rsh(x, 64).Uint64(), Lo: lo}, Exp: exp}}
}

func whole(n int) thing { return num(fmt.Sprint(n), 0) }

func text(s string) thing { return thing{kind: api.String, text: s} }

func date(y, m, d int) thing {
	return thing{kind: api.Date, day: civil.Date{Year: y, Month: m, Day: d}}
}

// clockTime is a time with no offset; clockAt is one with an offset.
func clockTime(sec int) thing { return thing{kind: api.Time, at: clock.Time{Sec: sec}} }

func clockAt(sec, offset int) thing {
	return thing{kind: api.Time, at: clock.Time{Sec: sec, Zoned: true, Offset: offset}}
}

// of is a date and time: the time of a day.
func (x thing) of(y, m, d int) thing {
	return thing{kind: api.DateTime, day: civil.Date{Year: y, Month: m, Day: d}, at: x.at}
}

func days(n int) thing { return thing{kind: api.Days, n: n} }

func months(n int) thing { return thing{kind: api.Months, n: n} }

func list(items ...thing) thing { return thing{kind: api.List, items: items} }

// context is one of names, with a blank between each, and of what stands by each.
func context(names string, items ...thing) thing {
	return thing{kind: api.Context, names: strings.Fields(names), items: items}
}

// span is a range as it is written: "[]" where both ends belong to it, "()" where neither does.
func span(lo, hi thing, brackets string) thing {
	in := [2]bool{brackets[0] == '[', brackets[1] == ']'}
	return thing{kind: api.Range, items: []thing{lo, hi}, in: in}
}

func function(code string, takes int) thing { return thing{kind: api.Function, text: code, n: takes} }

// made is the value of it; the test's own fault, if there is none.
func (x thing) made() value.Value {
	v := x.make()
	if v.Null() != (x.kind <= api.Null) {
		panic(fmt.Sprintf("no value of %v", x))
	}
	return v
}

func (x thing) make() value.Value {
	switch x.kind {
	case api.Boolean:
		return value.Bool(x.flag)
	case api.Number:
		return value.Num(x.num)
	case api.String:
		return value.Text(x.text)
	case api.Date:
		return value.Date(x.day)
	case api.Time:
		return value.Time(x.at)
	case api.DateTime:
		return value.Moment(moment.Moment{Date: x.day, Time: x.at})
	case api.Days:
		return value.Days(x.n)
	case api.Months:
		return value.Months(x.n)
	case api.List:
		return value.List(madeAll(x.items)...)
	case api.Context:
		return value.Context(x.names, madeAll(x.items))
	case api.Range:
		return value.Range(x.items[0].made(), x.items[1].made(), x.in)
	case api.Function:
		return value.Func(x.text, x.n)
	}
	return value.Value{}
}

func madeAll(xs []thing) []value.Value {
	var out []value.Value
	for _, x := range xs {
		out = append(out, x.made())
	}
	return out
}

func (x thing) null() bool { return x.kind <= api.Null }

// belong is which ends of a range belong to it: none that is open.
func (x thing) belong() [2]bool {
	return [2]bool{x.in[0] && !x.items[0].null(), x.in[1] && !x.items[1].null()}
}

// cmpModel is P12.2's Cmp, by the words.
func cmpModel(a, b thing) (int, bool) {
	timed := a.kind == api.Time || a.kind == api.DateTime
	if a.kind != b.kind || timed && a.at.Zoned != b.at.Zoned {
		return 0, false
	}
	switch a.kind {
	case api.Number:
		return sized(a.num).Cmp(sized(b.num)), true
	case api.String:
		return bytes.Compare([]byte(a.text), []byte(b.text)), true
	case api.Date:
		return cmp.Compare(dayNumber(a.day), dayNumber(b.day)), true
	case api.Time:
		return cmp.Compare(a.at.Sec-a.at.Offset, b.at.Sec-b.at.Offset), true
	case api.DateTime:
		return cmp.Compare(instant(a), instant(b)), true
	case api.Days, api.Months:
		return cmp.Compare(a.n, b.n), true
	}
	return 0, false
}

// sized is a number in steps of the least exponent.
func sized(d dec.Dec) *big.Int {
	x := new(big.Int).Lsh(new(big.Int).SetUint64(d.Coef.Hi), 64)
	x.Or(x, new(big.Int).SetUint64(d.Coef.Lo))
	x.Mul(x, new(big.Int).Exp(big.NewInt(10), big.NewInt(int64(d.Exp-api.MinExp)), nil))
	if d.Neg {
		x.Neg(x)
	}
	return x
}

// dayNumber is greater of each later day, no more.
func dayNumber(d civil.Date) int { return (d.Year*100+d.Month)*100 + d.Day }

func instant(x thing) int64 {
	midnight := time.Date(x.day.Year, time.Month(x.day.Month), x.day.Day, 0, 0, 0, 0, time.UTC)
	return midnight.Unix() + int64(x.at.Sec-x.at.Offset)
}

func lessModel(a, b thing, orSame bool) api.Truth {
	c, ok := cmpModel(a, b)
	if !ok {
		return api.Unknown
	}
	return yesIf(c < 0 || orSame && c == 0)
}

// sameModel is P12.3's Same, by the words.
func sameModel(a, b thing) api.Truth {
	if a.null() || b.null() {
		return yesIf(a.null() && b.null())
	}
	if a.kind != b.kind {
		return api.Unknown
	}
	switch a.kind {
	case api.Boolean:
		return yesIf(a.flag == b.flag)
	case api.List, api.Context:
		return samePartsModel(a, b)
	case api.Range:
		return all(yesIf(a.belong() == b.belong()), sameModel(a.items[0], b.items[0]), sameModel(a.items[1], b.items[1]))
	case api.Function:
		return api.Unknown
	}
	c, ok := cmpModel(a, b)
	if !ok {
		return api.Unknown
	}
	return yesIf(c == 0)
}

func samePartsModel(a, b thing) api.Truth {
	if len(a.items) != len(b.items) {
		return api.No
	}
	var each []api.Truth
	for i, item := range a.items {
		place := i
		if a.kind == api.Context {
			place = slices.Index(b.names, a.names[i])
		}
		if place < 0 {
			return api.No
		}
		each = append(each, sameModel(item, b.items[place]))
	}
	return all(each...)
}

// withinModel and amongModel are P12.4's, by the words.
func withinModel(v, r thing) api.Truth {
	if r.kind != api.Range || r.items[0].null() && r.items[1].null() {
		return api.Unknown
	}
	in := r.belong()
	var each []api.Truth
	if !r.items[0].null() {
		each = append(each, lessModel(r.items[0], v, in[0]))
	}
	if !r.items[1].null() {
		each = append(each, lessModel(v, r.items[1], in[1]))
	}
	return all(each...)
}

func amongModel(v thing, vs []thing) api.Truth {
	var each []api.Truth
	for _, x := range vs {
		each = append(each, sameModel(v, x))
	}
	return some(each...)
}

// checkPair holds all that is asked of two values, each way round, against the words.
func checkPair(t *testing.T, x, y thing) {
	t.Helper()
	checkOneWay(t, x, y)
	checkOneWay(t, y, x)
}

func checkOneWay(t *testing.T, x, y thing) {
	t.Helper()
	a, b := x.made(), y.made()
	wantCmp, may := cmpModel(x, y)
	if c, ok := equal.Cmp(a, b); c != wantCmp || ok != may {
		t.Errorf("Cmp(%.200v, %.200v) = %d, %v, not %d, %v", x, y, c, ok, wantCmp, may)
	}
	for _, q := range []struct {
		name      string
		got, want api.Truth
	}{
		{"Less", equal.Less(a, b), lessModel(x, y, false)},
		{"LessOr", equal.LessOr(a, b), lessModel(x, y, true)},
		{"Same", equal.Same(a, b), sameModel(x, y)},
		{"Within", equal.Within(a, b), withinModel(x, y)},
	} {
		if q.got != q.want {
			t.Errorf("%s(%.200v, %.200v) = %d, not %d", q.name, x, y, q.got, q.want)
		}
	}
}
