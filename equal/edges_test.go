package equal_test

import (
	"fmt"
	"math/rand"
	"slices"
	"sync"

	"casuist/api"
)

// row is values that can be held against one another: groups of the same ones, from the least on.
type row [][]thing

const (
	nines34 = "9999999999999999999999999999999999"
	one34   = "1000000000000000000000000000000000" // of 34 digits
)

func numbers() row {
	return row{
		{num("-"+nines34, 6111)},
		{num("-1", 6111), num("-10", 6110), num("-"+one34, 6078)},
		{num("-"+nines34, 0)},
		{num("-9223372036854775809", 0)},
		{num("-9223372036854775808", 0)},
		{num("-10", 0), num("-1", 1)},
		{num("-15", -1), num("-150", -2), num("-1500000000000000000000000000000000", -33)},
		{num("-1", 0), num("-10", -1), num("-"+one34, -33)},
		{num("-"+nines34, -34)},
		{num("-"+nines34, -6176)},
		{num("-1", -6175), num("-10", -6176)},
		{num("-1", -6176)},
		{num("0", 0), num("0", 5), num("0", -5), num("0", 6111), num("0", -6176)},
		{num("1", -6176)},
		{num("9", -6176)},
		{num("1", -6175), num("10", -6176)},
		{num(nines34, -6176)},
		{num(nines34, -34)},
		{num("1", 0), num("10", -1), num("100", -2), num(one34, -33)},
		{num("1000000000000000000000000000000001", -33)},
		{num("15", -1), num("150", -2)},
		{num("2", 0)},
		{num("10", 0), num("1", 1), num("100", -1)},
		{num("9223372036854775807", 0)},
		{num("9223372036854775808", 0)},
		{num(nines34, 0)},
		{num("1", 34), num("10", 33), num(one34, 1)},
		{num("1", 6111), num("10", 6110), num(one34, 6078)},
		{num(nines34, 6111)},
	}
}

func texts() row {
	return each(text, "", "\x00", "\x00\x00", "\x00a", " ", "10", "2", "9", "A", "Z", "a", "a\x00", "a ", "aa", "ab", "b", "e", "ea", "e\u0301", "f", "y", "\u007f",
		"\u0080", "\u00e9", "\u00e9\x00", "\u00e9a", "\u07ff", "\u0800", "\u20ac", "\u20aca", "\u20ac\u00e9", "\u20ad", "\ud7ff", "\ue000", "\ufeff", "\ufffd", "\uffff", "\U00010000", "\U0001f600", "\U0001f600\U0001f600", "\U0010ffff")
}

// each is a row of things of which none are the same.
func each[T any](make func(T) thing, xs ...T) row {
	var out row
	for _, x := range xs {
		out = append(out, []thing{make(x)})
	}
	return out
}

func dates() row {
	return row{
		{date(-999999999, 1, 1)},
		{date(-999999999, 1, 2)},
		{date(-10000, 12, 31)},
		{date(-2, 12, 31)},
		{date(-1, 1, 1)},
		{date(-1, 12, 31)},
		{date(0, 1, 1)},
		{date(0, 2, 29)},
		{date(1, 1, 1)},
		{date(1969, 12, 31)},
		{date(1970, 1, 1)},
		{date(2023, 12, 31)},
		{date(2024, 1, 31)},
		{date(2024, 2, 1)},
		{date(2024, 2, 28)},
		{date(2024, 2, 29)},
		{date(2024, 3, 1)},
		{date(2024, 10, 1)},
		{date(2025, 1, 1)},
		{date(999999999, 12, 30)},
		{date(999999999, 12, 31)},
	}
}

func plainTimes() row {
	return each(clockTime, 0, 1, 59, 60, 3599, 3600, 43200, 86398, 86399)
}

// zonedTimes are ordered as they are at Greenwich, also where it is another day there.
func zonedTimes() row {
	return row{
		{clockAt(0, 64800)},
		{clockAt(1, 64800), clockAt(0, 64799)},
		{clockAt(0, 3600), clockAt(3600, 7200)},
		{clockAt(0, 1), clockAt(1, 2), clockAt(3599, 3600)},
		{clockAt(0, 0), clockAt(3600, 3600), clockAt(64800, 64800)},
		{clockAt(0, -1), clockAt(1, 0)},
		{clockAt(32400, 0), clockAt(36000, 3600), clockAt(28800, -3600)},
		{clockAt(36000, 0), clockAt(32400, -3600)},
		{clockAt(86399, 0), clockAt(82799, -3600)},
		{clockAt(86399, -1), clockAt(82800, -3600)},
		{clockAt(86399, -64800)},
	}
}

func plainMoments() row {
	return row{
		{clockTime(0).of(-999999999, 1, 1)},
		{clockTime(86399).of(-999999999, 1, 1)},
		{clockTime(86399).of(-1, 12, 31)},
		{clockTime(0).of(0, 1, 1)},
		{clockTime(86399).of(1969, 12, 31)},
		{clockTime(0).of(1970, 1, 1)},
		{clockTime(1).of(1970, 1, 1)},
		{clockTime(0).of(1970, 1, 2)},
		{clockTime(86399).of(2024, 2, 28)},
		{clockTime(0).of(2024, 2, 29)},
		{clockTime(43200).of(2024, 2, 29)},
		{clockTime(0).of(2024, 3, 1)},
		{clockTime(86399).of(999999999, 12, 31)},
	}
}

// zonedMoments are ordered by their instants.
func zonedMoments() row {
	return row{
		{clockAt(0, 64800).of(-999999999, 1, 1)},
		{clockAt(0, 0).of(-999999999, 1, 1)},
		{clockAt(0, 0).of(1970, 1, 1), clockAt(3600, 3600).of(1970, 1, 1), clockAt(82800, -3600).of(1969, 12, 31)},
		{clockAt(3600, 0).of(2024, 1, 1), clockAt(82800, -7200).of(2023, 12, 31), clockAt(68400, 64800).of(2024, 1, 1)},
		{clockAt(3600, -1).of(2024, 1, 1), clockAt(3601, 0).of(2024, 1, 1)},
		{clockAt(0, 64800).of(2024, 3, 1), clockAt(21600, 0).of(2024, 2, 29), clockAt(43200, 21600).of(2024, 2, 29)},
		{clockAt(43200, 0).of(2024, 2, 29)},
		{clockAt(86399, 0).of(999999999, 12, 31)},
		{clockAt(86399, -64800).of(999999999, 12, 31)},
	}
}

func durations(make func(int) thing) row {
	return each(make, -most, -most+1, -86400, -12, -1, 0, 1, 12, 86399, 86400, most-1, most)
}

// rows are all that is ordered: of two things of two rows neither is ahead. They are made once, as the tests ask for them often.
var rows = sync.OnceValue(func() []row {
	return []row{numbers(), texts(), dates(), plainTimes(), zonedTimes(), plainMoments(), zonedMoments(), durations(days), durations(months)}
})

// unordered are values of the kinds that have no order.
func unordered() []thing {
	return []thing{
		{}, null(), boolean(false), boolean(true), list(), list(whole(1)), list(null(), list()),
		context(""), context("a", whole(1)), context("a b", null(), text("a")),
		span(whole(1), whole(2), "[]"), span(text("a"), null(), "(]"), span(null(), null(), "()"),
		function("code", 0), function("code", 1), list(function("code", 1)),
	}
}

// few are the least, some and the greatest of each row, and all that is not ordered.
func few() []thing {
	out := unordered()
	for _, r := range rows() {
		for _, i := range []int{0, 1, len(r) / 2, len(r) - 1} {
			out = append(out, r[i]...)
		}
	}
	return out
}

// someThing is anything that may be a value, so deep at most.
func someThing(r *rand.Rand, deep int) thing {
	if deep == 0 || r.Intn(2) == 0 {
		return someEnd(r, pick(r, rows()))
	}
	x := thing{kind: pick(r, []api.Kind{api.List, api.Context})}
	switch r.Intn(5) {
	case 0:
		return someRange(r)
	case 1:
		return pick(r, unordered())
	}
	for i := range r.Intn(4) {
		x.items = append(x.items, someThing(r, deep-1))
		if x.kind == api.Context {
			x.names = append(x.names, fmt.Sprint(i*2+r.Intn(2)))
		}
	}
	return x
}

// someEnd is of a row.
func someEnd(r *rand.Rand, of row) thing { return pick(r, pick(r, of)) }

func someRange(r *rand.Rand) thing {
	of := pick(r, rows())
	ends := []thing{someEnd(r, of), someEnd(r, of)}
	for i := range ends {
		if r.Intn(4) == 0 {
			ends[i] = null()
		}
	}
	return span(ends[0], ends[1], pick(r, []string{"[]", "[)", "(]", "()"}))
}

// alike is a thing told in another way: with its names in another order, or another one of its group; now and then something else stands in it.
func alike(r *rand.Rand, x thing) thing {
	switch x.kind {
	case api.List, api.Context:
		return alikeParts(r, x)
	case api.Range:
		y := x
		y.items = []thing{alikeEnd(r, x.items[0]), alikeEnd(r, x.items[1])}
		if r.Intn(6) == 0 {
			y.in[r.Intn(2)] = r.Intn(2) == 0
		}
		return y
	}
	if r.Intn(12) == 0 {
		return someThing(r, 1)
	}
	return alikeEnd(r, x)
}

func alikeParts(r *rand.Rand, x thing) thing {
	y := thing{kind: x.kind}
	order := r.Perm(len(x.items))
	if x.kind == api.List {
		slices.Sort(order)
	}
	for _, i := range order {
		y.items = append(y.items, alike(r, x.items[i]))
		if x.kind == api.Context {
			y.names = append(y.names, x.names[i])
		}
	}
	if x.kind == api.Context && r.Intn(12) == 0 && len(y.names) > 0 {
		y.names[0] = "another"
	}
	return y
}

// alikeEnd is one of a thing's group, or, now and then, one of its row.
func alikeEnd(r *rand.Rand, x thing) thing {
	for _, of := range rows() {
		for _, group := range of {
			if !slices.ContainsFunc(group, func(y thing) bool { return leaf(x, y) }) {
				continue
			}
			if r.Intn(12) == 0 {
				return someEnd(r, of)
			}
			return pick(r, group)
		}
	}
	return x
}

// leaf tells whether two things of a row are the very same.
func leaf(x, y thing) bool {
	return x.kind == y.kind && x.num == y.num && x.text == y.text && x.day == y.day && x.at == y.at && x.n == y.n
}

func pick[T any](r *rand.Rand, all []T) T { return all[r.Intn(len(all))] }
