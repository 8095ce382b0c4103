package span_test

import (
	"math"
	"math/rand"
	"testing"

	"casuist/span"
)

func TestP101May(t *testing.T) {
	for _, n := range []int{0, 1, -1, 86400, -86400, most - 1, -most + 1, most, -most} {
		if !span.May(n) {
			t.Errorf("May(%d) is false", n)
		}
	}
	for _, n := range tooLong() {
		if span.May(n) {
			t.Errorf("May(%d) is true", n)
		}
	}
	for _, n := range edgeInts() {
		if got := span.May(n); got != mayModel(n) {
			t.Errorf("May(%d) is %v", n, got)
		}
	}
}

func TestP101Add(t *testing.T) {
	for _, x := range [][3]int{
		{0, 0, 0},
		{1, 2, 3},
		{-1, -2, -3},
		{5, -7, -2},
		{-86400, 86399, -1},
		{most, 0, most},
		{-most, 0, -most},
		{most - 1, 1, most},
		{-most + 1, -1, -most},
		{most, -1, most - 1},
		{-most, 1, -most + 1},
		{most, -most, 0},
		{most / 2, most / 2, most},
		{-most / 2, -most / 2, -most},
		{most/2 - 1, most / 2, most - 1},
	} {
		checkAdd(t, x[0], x[1], x[2], true)
		checkAdd(t, x[1], x[0], x[2], true)
	}
}

func checkAdd(t *testing.T, a, b, want int, may bool) {
	t.Helper()
	if got, ok := span.Add(a, b); got != want || ok != may {
		t.Errorf("Add(%d, %d) = %d, %v, not %d, %v", a, b, got, ok, want, may)
	}
}

func TestP101AddBeyondTheMost(t *testing.T) {
	for _, x := range [][2]int{
		{most, 1},
		{-most, -1},
		{most, most},
		{-most, -most},
		{most - 1, 2},
		{-most + 1, -2},
		{most / 2, most/2 + 1},
		{-most / 2, -most/2 - 1},
	} {
		checkAdd(t, x[0], x[1], 0, false)
		checkAdd(t, x[1], x[0], 0, false)
	}
}

// One that may not be has no sum, even where the sum may be, or comes round to one that may.
func TestP101AddOfWhatMayNotBe(t *testing.T) {
	for _, a := range tooLong() {
		for _, b := range append(edgeInts(), -a, -a-1, -a+1, most-a, -most-a) {
			checkAdd(t, a, b, 0, false)
			checkAdd(t, b, a, 0, false)
		}
	}
	checkAdd(t, most+1, -1, 0, false)
	checkAdd(t, -1, most+1, 0, false)
	checkAdd(t, -most-1, 1, 0, false)
	checkAdd(t, math.MinInt, math.MinInt, 0, false)
	checkAdd(t, math.MaxInt, math.MinInt, 0, false)
	checkAdd(t, math.MaxInt, math.MaxInt, 0, false)
}

func TestP101AddByTheWords(t *testing.T) {
	check := func(a, b int) {
		t.Helper()
		want, may := addModel(a, b)
		checkAdd(t, a, b, want, may)
	}
	for _, a := range edgeInts() {
		for _, b := range edgeInts() {
			check(a, b)
		}
	}
	r := rand.New(rand.NewSource(101))
	for range 50000 {
		check(someSpan(r), someSpan(r))
		check(int(r.Uint64()), int(r.Uint64()))
	}
}

func checkParts(t *testing.T, n int, want [4]int) {
	t.Helper()
	if d, h, m, s := span.Parts(n); [4]int{d, h, m, s} != want {
		t.Errorf("Parts(%d) = %d, %d, %d, %d, not %v", n, d, h, m, s, want)
	}
}

func TestP101Parts(t *testing.T) {
	for _, x := range []struct {
		n    int
		want [4]int
	}{
		{0, [4]int{0, 0, 0, 0}},
		{1, [4]int{0, 0, 0, 1}},
		{59, [4]int{0, 0, 0, 59}},
		{60, [4]int{0, 0, 1, 0}},
		{61, [4]int{0, 0, 1, 1}},
		{3599, [4]int{0, 0, 59, 59}},
		{3600, [4]int{0, 1, 0, 0}},
		{3601, [4]int{0, 1, 0, 1}},
		{3660, [4]int{0, 1, 1, 0}},
		{86399, [4]int{0, 23, 59, 59}},
		{86400, [4]int{1, 0, 0, 0}},
		{86401, [4]int{1, 0, 0, 1}},
		{90061, [4]int{1, 1, 1, 1}},
		{2*86400 + 3*3600 + 4*60 + 5, [4]int{2, 3, 4, 5}},
		{40*86400 - 1, [4]int{39, 23, 59, 59}},
		{366 * 86400, [4]int{366, 0, 0, 0}},
		{most, [4]int{104249991374, 7, 36, 32}},
		{most + 1, [4]int{104249991374, 7, 36, 33}},
		{math.MaxInt, [4]int{106751991167300, 15, 30, 7}},
	} {
		checkParts(t, x.n, x.want)
		for i := range x.want {
			x.want[i] = -x.want[i]
		}
		checkParts(t, -x.n, x.want)
	}
	checkParts(t, math.MinInt, [4]int{-106751991167300, -15, -30, -8})
}

func TestP101PartsByTheWords(t *testing.T) {
	check := func(n int) {
		t.Helper()
		checkParts(t, n, partsModel(n))
		d, h, m, s := span.Parts(n)
		if ((d*24+h)*60+m)*60+s != n {
			t.Errorf("Parts(%d) don't come to it: %d, %d, %d, %d", n, d, h, m, s)
		}
	}
	for _, n := range edgeInts() {
		check(n)
	}
	for n := -200000; n <= 200000; n++ {
		check(n)
	}
	r := rand.New(rand.NewSource(102))
	for range 20000 {
		check(someSpan(r))
		check(int(r.Uint64()))
	}
}
