package equal_test

import (
	"testing"

	"casuist/api"
	"casuist/equal"
	"casuist/value"
)

func TestP121Of(t *testing.T) {
	if equal.Of(true) != api.Yes || equal.Of(false) != api.No {
		t.Error(equal.Of(true), equal.Of(false))
	}
}

func TestP121Not(t *testing.T) {
	for _, x := range truths() {
		want := api.Unknown
		switch x {
		case api.Yes:
			want = api.No
		case api.No:
			want = api.Yes
		}
		if got := equal.Not(x); got != want {
			t.Errorf("Not(%d) = %d, not %d", x, got, want)
		}
	}
}

func TestP121AndOr(t *testing.T) {
	const y, n, u = api.Yes, api.No, api.Unknown
	for _, x := range []struct{ a, b, and, or api.Truth }{
		{y, y, y, y},
		{y, n, n, y},
		{y, u, u, y},
		{n, y, n, y},
		{n, n, n, n},
		{n, u, n, u},
		{u, y, u, y},
		{u, n, n, u},
		{u, u, u, u},
	} {
		if and, or := equal.And(x.a, x.b), equal.Or(x.a, x.b); and != x.and || or != x.or {
			t.Errorf("And(%d, %d) = %d, Or = %d", x.a, x.b, and, or)
		}
	}
}

// A truth that is none of the three counts as Unknown, also beside another one.
func TestP121AnyTruths(t *testing.T) {
	for _, a := range truths() {
		for _, b := range truths() {
			if got, want := equal.And(a, b), all(a, b); got != want {
				t.Errorf("And(%d, %d) = %d, not %d", a, b, got, want)
			}
			if got, want := equal.Or(a, b), some(a, b); got != want {
				t.Errorf("Or(%d, %d) = %d, not %d", a, b, got, want)
			}
		}
	}
}

func TestP121Truth(t *testing.T) {
	if equal.Truth(value.Bool(true)) != api.Yes || equal.Truth(value.Bool(false)) != api.No {
		t.Error(equal.Truth(value.Bool(true)), equal.Truth(value.Bool(false)))
	}
	others := append(few(), text("true"), text("false"), whole(0), whole(1), list(boolean(true)), context("a", boolean(false)))
	for _, x := range others {
		if x.kind == api.Boolean {
			continue
		}
		if got := equal.Truth(x.made()); got != api.Unknown {
			t.Errorf("Truth(%.200v) = %d", x, got)
		}
	}
	// What a function is to whoever made it is not asked.
	if got := equal.Truth(value.Func(true, 0)); got != api.Unknown {
		t.Error(got)
	}
}

func TestP121Value(t *testing.T) {
	for _, x := range truths() {
		v := equal.Value(x)
		b, is := v.AsBool()
		known := x == api.Yes || x == api.No
		if is != known || b != (x == api.Yes) || v.Null() == known {
			t.Errorf("Value(%d) is of kind %d, %v, %v", x, v.Kind(), b, is)
		}
		if known && equal.Truth(v) != x || !known && equal.Truth(v) != api.Unknown {
			t.Errorf("Truth(Value(%d)) = %d", x, equal.Truth(v))
		}
	}
}
