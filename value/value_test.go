package value

import (
	"math"
	"strings"
	"testing"

	"belvedere/api"
)

func TestMakers(t *testing.T) {
	for _, x := range []struct{ got, want api.Value }{
		{Of(0), api.Value{Kind: api.Int}},
		{Of(-7), api.Value{Kind: api.Int, N: -7}},
		{Of(math.MaxInt64), api.Value{Kind: api.Int, N: math.MaxInt64}},
		{Str(""), api.Value{Kind: api.Text}},
		{Str("a\x00b"), api.Value{Kind: api.Text, S: "a\x00b"}},
		{Is(false), api.Value{Kind: api.Bool}},
		{Is(true), api.Value{Kind: api.Bool, N: 1}},
	} {
		if x.got != x.want {
			t.Errorf("made %+v, want %+v", x.got, x.want)
		}
	}
}

// rightValues are in the order that Compare promises.
func rightValues() []api.Value {
	full := strings.Repeat("z", api.MaxText)
	return []api.Value{
		{},
		Of(math.MinInt64), Of(-10), Of(-9), Of(-1), Of(0), Of(1), Of(9), Of(10), Of(math.MaxInt64),
		Str(""), Str("\x00"), Str("'"), Str("10"), Str("9"), Str("A"), Str("Z"), Str("a"), Str("aa"), Str("b"), Str(full), Str("\u00e9"), Str("\ufffd"), Str("\U0001f600"), Str("\xff"),
		Is(false), Is(true),
	}
}

func wrongValues() []api.Value {
	return []api.Value{
		{Kind: math.MinInt}, {Kind: -1}, {Kind: -1, N: 1, S: "x"}, {Kind: 4}, {Kind: math.MaxInt},
		{Kind: api.Null, N: 1}, {Kind: api.Null, N: math.MinInt64}, {Kind: api.Null, S: "x"}, {Kind: api.Null, S: "\x00"},
		{Kind: api.Int, S: "x"}, {Kind: api.Int, N: 1, S: "1"},
		{Kind: api.Text, N: 1}, {Kind: api.Text, N: -1, S: "x"}, Str(strings.Repeat("z", api.MaxText+1)), Str(strings.Repeat("\u00e9", api.MaxText/2) + "z"), Str(strings.Repeat("z", 1<<16)),
		{Kind: api.Bool, N: 2}, {Kind: api.Bool, N: -1}, {Kind: api.Bool, N: math.MaxInt64}, {Kind: api.Bool, S: "x"}, {Kind: api.Bool, N: 1, S: "true"},
	}
}

func TestCheck(t *testing.T) {
	for _, v := range rightValues() {
		if !Check(v) {
			t.Errorf("Check(%+v): false", v)
		}
	}
	for _, v := range wrongValues() {
		if Check(v) {
			t.Errorf("Check(%+v): true", v)
		}
	}
}

func TestCheckCountsBytes(t *testing.T) {
	if !Check(Str(strings.Repeat("\u00e9", api.MaxText/2))) {
		t.Error("a text of MaxText bytes is refused")
	}
	if Check(Str(strings.Repeat("\u00e9", api.MaxText/2+1))) {
		t.Error("a text of fewer than MaxText runes but more bytes is taken")
	}
}

func TestCompareOrder(t *testing.T) {
	order := rightValues()
	for i, a := range order {
		for j, b := range order {
			want := 0
			if i < j {
				want = -1
			} else if i > j {
				want = 1
			}
			if got := Compare(a, b); got != want {
				t.Errorf("Compare(%+v, %+v): %d, want %d", a, b, got, want)
			}
		}
	}
}

func TestCompareAsksKindThenNThenS(t *testing.T) {
	for _, x := range []struct {
		a, b api.Value
		want int
	}{
		{api.Value{Kind: 1, N: 9, S: "z"}, api.Value{Kind: 2}, -1},
		{api.Value{Kind: -1, N: 9, S: "z"}, api.Value{}, -1},
		{api.Value{Kind: 4}, api.Value{Kind: 3, N: 9, S: "z"}, 1},
		{api.Value{Kind: math.MinInt}, api.Value{Kind: math.MaxInt}, -1},
		{api.Value{Kind: 2, N: 1, S: "z"}, api.Value{Kind: 2, N: 2, S: "a"}, -1},
		{api.Value{Kind: 2, N: math.MaxInt64}, api.Value{Kind: 2, N: math.MinInt64, S: "a"}, 1},
		{api.Value{Kind: 1, N: 1, S: "a"}, api.Value{Kind: 1, N: 1, S: "b"}, -1},
		{api.Value{Kind: 0, S: "ab"}, api.Value{Kind: 0, S: "a"}, 1},
		{api.Value{Kind: 7, N: 5, S: "a"}, api.Value{Kind: 7, N: 5, S: "a"}, 0},
	} {
		if got := Compare(x.a, x.b); got != x.want {
			t.Errorf("Compare(%+v, %+v): %d, want %d", x.a, x.b, got, x.want)
		}
		if got := Compare(x.b, x.a); got != -x.want {
			t.Errorf("Compare(%+v, %+v): %d, want %d", x.b, x.a, got, -x.want)
		}
	}
}

func TestCompareTellsApart(t *testing.T) {
	all := append(rightValues(), wrongValues()...)
	for _, a := range all {
		for _, b := range all {
			c := Compare(a, b)
			if c < -1 || c > 1 || c != -Compare(b, a) || (c == 0) != (a == b) {
				t.Errorf("Compare(%+v, %+v): %d", a, b, c)
			}
		}
	}
}

func TestShow(t *testing.T) {
	for _, x := range []struct {
		v    api.Value
		want string
	}{
		{api.Value{}, "null"},
		{Of(0), "0"}, {Of(-1), "-1"}, {Of(42), "42"},
		{Of(math.MaxInt64), "9223372036854775807"}, {Of(math.MinInt64), "-9223372036854775808"},
		{Str(""), "''"}, {Str("a"), "'a'"}, {Str("null"), "'null'"},
		{Str("'"), "''''"}, {Str("''"), "''''''"}, {Str("'a'"), "'''a'''"}, {Str("it's"), "'it''s'"},
		{Str("a\"\\\n\x00\xff\u00e9"), "'a\"\\\n\x00\xff\u00e9'"},
		{Str(strings.Repeat("'", api.MaxText)), strings.Repeat("'", 2*api.MaxText+2)},
		{Is(true), "true"}, {Is(false), "false"},
	} {
		if got := Show(x.v); got != x.want {
			t.Errorf("Show(%+v): %q, want %q", x.v, got, x.want)
		}
	}
}

func TestShowTellsRightValuesApart(t *testing.T) {
	seen := map[string]api.Value{}
	for _, v := range rightValues() {
		s := Show(v)
		if other, ok := seen[s]; ok {
			t.Errorf("%+v and %+v are both shown as %q", v, other, s)
		}
		seen[s] = v
	}
}

func TestShowOfWrongValues(t *testing.T) {
	for _, v := range wrongValues() {
		Show(v) // no more is promised than that it ends and does not panic
	}
	if got := Show(api.Value{Kind: 4, N: 1, S: "x"}); got != "" {
		t.Errorf("Show of a Kind that is none: %q", got)
	}
}
