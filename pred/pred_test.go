package pred

import (
	"errors"
	"math"
	"math/rand"
	"reflect"
	"slices"
	"strconv"
	"strings"
	"testing"

	"belvedere/api"
	"belvedere/row"
	"belvedere/value"
)

var (
	ops      = []int{api.Eq, api.Ne, api.Lt, api.Le, api.Gt, api.Ge}
	signs    = []string{"=", "!=", "<", "<=", ">", ">="}
	wrongOps = []int{math.MinInt, -6, -1, 0, 7, 8, 13, math.MaxInt}
	wrong    = []int{math.MinInt, -1, 0, 7, 8, math.MaxInt} // Kinds that are none
	none     = []int{math.MinInt, -2, -1, 5, 6, math.MaxInt}
	types    = []int{api.Int, api.Text, api.Bool, api.Int, api.Text} // five columns, as none has it
)

func cmp(col, op int, v api.Value) api.Pred {
	return api.Pred{Kind: api.Cmp, Col: col, Op: op, Const: v}
}

func two(a, op, b int) api.Pred { return api.Pred{Kind: api.CmpCol, Col: a, Op: op, With: b} }

func null(c int) api.Pred { return api.Pred{Kind: api.IsNull, Col: c} }

func and(l ...api.Pred) api.Pred { return api.Pred{Kind: api.And, L: l} }

func or(l ...api.Pred) api.Pred { return api.Pred{Kind: api.Or, L: l} }

func not(l ...api.Pred) api.Pred { return api.Pred{Kind: api.Not, L: l} }

func eq(c int, n int64) api.Pred { return cmp(c, api.Eq, value.Of(n)) }

// yes and no hold of every row, and of none.
func yes() api.Pred { return null(-1) }

func no() api.Pred { return cmp(-1, api.Eq, value.Of(0)) }

// deep is that many Nots around p.
func deep(many int, p api.Pred) api.Pred {
	for range many {
		p = not(p)
	}
	return p
}

// deepIn is that many Ands, or Ors, around p, each with q ahead.
func deepIn(kind, many int, q, p api.Pred) api.Pred {
	for range many {
		p = api.Pred{Kind: kind, L: []api.Pred{q, p}}
	}
	return p
}

func holds(t *testing.T, want bool, p api.Pred, r api.Row) {
	t.Helper()
	if Holds(p, r) != want {
		t.Errorf("Holds(%+v, %+v): %t", p, r, !want)
	}
}

func checks(t *testing.T, want error, p api.Pred) {
	t.Helper()
	if got := Check(p, types); got != want {
		t.Errorf("Check(%+v): %v, want %v", p, got, want)
	}
}

func shows(t *testing.T, want string, p api.Pred) {
	t.Helper()
	if got := Show(p); got != want {
		t.Errorf("Show(%+v): %q, want %q", p, got, want)
	}
}

func asks(t *testing.T, p api.Pred, want ...int) {
	t.Helper()
	if got := Cols(p); !slices.Equal(got, want) {
		t.Errorf("Cols(%+v): %v, want %v", p, got, want)
	}
}

func maps(t *testing.T, p api.Pred, cols []int, want api.Pred) {
	t.Helper()
	if got := Map(p, cols); !reflect.DeepEqual(got, want) {
		t.Errorf("Map(%+v, %v): %+v, want %+v", p, cols, got, want)
	}
}

// rising is values of one Kind, each less than the next.
func rising() [][]api.Value {
	return [][]api.Value{
		{value.Of(math.MinInt64), value.Of(-10), value.Of(-9), value.Of(-1), value.Of(0), value.Of(1), value.Of(9), value.Of(10), value.Of(math.MaxInt64)},
		{value.Str(""), value.Str("\x00"), value.Str("'"), value.Str("10"), value.Str("9"), value.Str("A"), value.Str("Z"), value.Str("a"), value.Str("aa"), value.Str("b"), value.Str(strings.Repeat("z", api.MaxText)), value.Str("\u00e9"), value.Str("\xff")},
		{value.Is(false), value.Is(true)},
	}
}

// wanted is what op says of places i and j of what rises.
func wanted(op, i, j int) bool {
	return []bool{i == j, i != j, i < j, i <= j, i > j, i >= j}[op-1]
}

func TestNumbersOfKindsAndOps(t *testing.T) {
	if !slices.Equal([]int{api.Cmp, api.CmpCol, api.IsNull, api.And, api.Or, api.Not}, []int{1, 2, 3, 4, 5, 6}) || !slices.Equal(ops, []int{1, 2, 3, 4, 5, 6}) {
		t.Error("these tests take other numbers")
	}
}

func TestHoldsOfValuesOfOneKind(t *testing.T) {
	for _, l := range rising() {
		for i, a := range l {
			for j, b := range l {
				for _, op := range ops {
					want := wanted(op, i, j)
					holds(t, want, cmp(0, op, b), api.Row{a})
					holds(t, want, cmp(2, op, b), api.Row{b, b, a, b})
					holds(t, want, two(0, op, 1), api.Row{a, b})
					holds(t, want, two(2, op, 0), api.Row{b, {}, a})
					holds(t, wanted(op, i, i), two(0, op, 0), api.Row{a})
				}
			}
		}
	}
}

func TestHoldsOfValuesOfUnlikeKinds(t *testing.T) {
	all := append(rising(), []api.Value{{}})
	for i, l := range all {
		for j, m := range all {
			for _, a := range l {
				for _, b := range m {
					for _, op := range ops {
						if i != j {
							holds(t, false, cmp(0, op, b), api.Row{a})
							holds(t, false, two(0, op, 1), api.Row{a, b})
						}
					}
				}
			}
		}
	}
	for _, op := range ops {
		holds(t, false, cmp(0, op, value.Is(true)), api.Row{value.Of(1)})
		holds(t, false, cmp(0, op, value.Str("1")), api.Row{value.Of(1)})
		holds(t, false, cmp(0, op, value.Of(0)), api.Row{value.Is(false)})
		holds(t, false, two(0, op, 1), api.Row{value.Of(0), value.Is(false)})
	}
}

func TestHoldsAtNull(t *testing.T) {
	for _, op := range ops {
		holds(t, false, cmp(0, op, api.Value{}), api.Row{{}})
		holds(t, false, cmp(0, op, api.Value{}), api.Row{value.Of(0)})
		holds(t, false, cmp(0, op, api.Value{}), api.Row{value.Str("")})
		holds(t, false, cmp(0, op, value.Of(0)), api.Row{{}})
		holds(t, false, cmp(0, op, value.Str("")), api.Row{{}})
		holds(t, false, cmp(0, op, value.Is(false)), api.Row{{}})
		holds(t, false, two(0, op, 1), api.Row{{}, {}})
		holds(t, false, two(0, op, 0), api.Row{{}})
		holds(t, false, two(0, op, 1), api.Row{value.Of(0), {}})
		holds(t, false, two(0, op, 1), api.Row{{}, value.Of(0)})
		holds(t, true, not(cmp(0, op, value.Of(0))), api.Row{{}})
		holds(t, true, not(two(0, op, 0)), api.Row{{}})
	}
}

func TestHoldsOfColumnsThatTheRowDoesNotHave(t *testing.T) {
	full := api.Row{value.Of(1), value.Of(1), value.Of(1), value.Of(1), value.Of(1), value.Of(1)}
	for _, r := range []api.Row{full[:5], full[:5:5]} {
		for _, c := range none {
			holds(t, true, null(c), r)
			holds(t, false, not(null(c)), r)
			for _, op := range ops {
				holds(t, false, cmp(c, op, value.Of(1)), r)
				holds(t, false, cmp(c, op, api.Value{}), r)
				holds(t, false, two(c, op, 0), r)
				holds(t, false, two(0, op, c), r)
				holds(t, false, two(c, op, c), r)
			}
		}
		holds(t, false, null(4), r)
		holds(t, true, two(4, api.Eq, 0), r)
	}
	for _, r := range []api.Row{nil, {}, full[:0]} {
		holds(t, true, null(0), r)
		holds(t, false, eq(0, 1), r)
		holds(t, false, two(0, api.Eq, 0), r)
		holds(t, false, two(0, api.Ne, 1), r)
	}
}

func TestHoldsOfIsNull(t *testing.T) {
	r := api.Row{{}, value.Of(0), value.Str(""), value.Is(false), {}}
	for c, want := range []bool{true, false, false, false, true} {
		holds(t, want, null(c), r)
		holds(t, !want, not(null(c)), r)
	}
	holds(t, true, api.Pred{Kind: api.IsNull, Col: 0, With: 1, Op: 9, Const: value.Of(1), L: []api.Pred{no()}}, r)
	holds(t, false, api.Pred{Kind: api.IsNull, Col: 1, With: 0}, r)
}

func TestHoldsOfAndAndOr(t *testing.T) {
	for many := range 8 {
		for set := range 1 << many {
			l := make([]api.Pred, many)
			for i := range l {
				l[i] = []api.Pred{eq(0, 1), eq(0, 2)}[set>>i&1]
			}
			r := api.Row{value.Of(1)}
			holds(t, set == 0, and(l...), r)
			holds(t, set != 1<<many-1, or(l...), r)
		}
	}
	holds(t, true, and(), nil)
	holds(t, false, or(), nil)
	holds(t, true, api.Pred{Kind: api.And, L: []api.Pred{}}, nil)
	holds(t, false, api.Pred{Kind: api.Or, L: []api.Pred{}}, nil)
}

func TestHoldsOfNot(t *testing.T) {
	holds(t, false, not(), nil)
	holds(t, false, api.Pred{Kind: api.Not, L: []api.Pred{}}, nil)
	holds(t, false, not([]api.Pred{no()}[:0]...), nil)
	holds(t, false, not(yes()), nil)
	holds(t, true, not(no()), nil)
	holds(t, true, not(not()), nil)
	holds(t, true, not(or()), nil)
	holds(t, false, not(and()), nil)
	for _, rest := range []api.Pred{yes(), no(), not(), {}} {
		holds(t, false, not(yes(), rest), nil)
		holds(t, true, not(no(), rest), nil)
		holds(t, false, not(yes(), rest, rest), nil)
		holds(t, true, not(no(), rest, rest), nil)
	}
}

func TestHoldsOfWhatIsNone(t *testing.T) {
	r := api.Row{value.Of(1), {}}
	for _, kind := range wrong {
		p := api.Pred{Kind: kind, Col: 0, Op: api.Eq, With: 0, Const: value.Of(1), L: []api.Pred{yes()}}
		holds(t, false, p, r)
		p.Col = 1
		holds(t, false, p, r)
		holds(t, true, not(p), r)
		holds(t, false, and(p, yes()), r)
		holds(t, true, or(p, yes()), r)
		holds(t, false, or(p, p), r)
	}
	for _, op := range wrongOps {
		for _, v := range []api.Value{value.Of(0), value.Of(1), value.Of(2), {}, value.Str("")} {
			holds(t, false, cmp(0, op, v), r)
			holds(t, false, two(0, op, 1), api.Row{value.Of(1), v})
			holds(t, true, not(cmp(0, op, v)), r)
		}
	}
}

func TestHoldsOfWrongValues(t *testing.T) {
	a, b := api.Value{Kind: api.Int, N: 1, S: "a"}, api.Value{Kind: api.Int, N: 1, S: "b"}
	holds(t, true, cmp(0, api.Lt, b), api.Row{a})
	holds(t, false, cmp(0, api.Eq, b), api.Row{a})
	holds(t, true, null(0), api.Row{{Kind: api.Null, N: 1}})
	holds(t, false, cmp(0, api.Ne, value.Of(1)), api.Row{{Kind: 7}})
}

func TestHoldsOfPartsInParts(t *testing.T) {
	r := api.Row{value.Of(5), value.Str("b"), {}, value.Of(7)}
	holds(t, true, and(eq(0, 5), or(eq(0, 6), two(0, api.Lt, 3)), not(null(1))), r)
	holds(t, false, and(eq(0, 5), or(eq(0, 6), two(0, api.Gt, 3)), not(null(1))), r)
	holds(t, false, and(eq(0, 5), or(eq(0, 6), two(0, api.Lt, 3)), not(null(2))), r)
	holds(t, true, or(and(eq(0, 6), yes()), and(eq(3, 7), not(and(null(2), null(1))))), r)
	holds(t, true, not(or(null(0), and(null(2), null(3)))), r)
	holds(t, false, not(and(or(null(0), null(2)), or(null(2), null(3)))), r)
}

func TestDeep(t *testing.T) {
	for _, many := range []int{api.MaxDeep - 1, api.MaxDeep, api.MaxDeep + 1, 1000, 1<<16 - 1} {
		p := deep(many, eq(0, 5))
		holds(t, many%2 == 0, p, api.Row{value.Of(5)})
		holds(t, many%2 != 0, p, api.Row{value.Of(6)})
		if got := Check(p, types); got != nil {
			t.Errorf("%d deep: %v", many, got)
		}
		if Check(deep(many, eq(5, 5)), types) != api.ErrArity || Check(deep(many, eq(1, 5)), types) != api.ErrType {
			t.Errorf("%d deep: no error", many)
		}
		if got := Show(p); got != strings.Repeat("not (", many)+"#0 = 5"+strings.Repeat(")", many) {
			t.Errorf("%d deep: shown in %d bytes", many, len(got))
		}
		asked := deep(many, two(4, api.Lt, 2))
		if !slices.Equal(Cols(asked), []int{2, 4}) || !slices.Equal(Cols(Map(asked, []int{0, 0, 9, 0, 1})), []int{1, 9}) {
			t.Errorf("%d deep: %v", many, Cols(Map(asked, []int{0, 0, 9, 0, 1})))
		}
		if !Same(p, deep(many, eq(0, 5))) || Same(p, deep(many, eq(0, 6))) || Same(p, deep(many+1, eq(0, 5))) {
			t.Errorf("%d deep: Same", many)
		}
	}
}

func TestDeepAndsAndOrs(t *testing.T) {
	r := api.Row{value.Of(5)}
	for _, many := range []int{api.MaxDeep, api.MaxDeep + 1, 1<<16 - 1} {
		ands, ors := deepIn(api.And, many, eq(0, 5), eq(3, 5)), deepIn(api.Or, many, eq(0, 6), eq(3, 5))
		if Holds(ands, r) || Holds(ors, r) || !Holds(Map(ands, []int{0, 0, 0, 0}), r) || !Holds(Map(ors, []int{0, 0, 0, 0}), r) {
			t.Errorf("%d deep: Holds", many)
		}
		if Check(ands, types) != nil || Check(ors, types) != nil || Check(ands, types[:3]) != api.ErrArity || Check(ors, []int{1, 1, 1, 2}) != api.ErrType {
			t.Errorf("%d deep: Check", many)
		}
		if !slices.Equal(Cols(ands), []int{0, 3}) || Show(ors) != strings.Repeat("(#0 = 6) or (", many)+"#3 = 5"+strings.Repeat(")", many) {
			t.Errorf("%d deep: Cols, Show", many)
		}
	}
}

func TestMany(t *testing.T) {
	l := make([]api.Pred, 1<<16)
	for i := range l {
		l[i] = null(len(l) - i)
	}
	noes := slices.Repeat([]api.Pred{no()}, 1<<16)
	if !Holds(and(l...), nil) || Holds(and(append(l, no())...), nil) || Holds(or(noes...), nil) || !Holds(or(append(noes, yes())...), nil) {
		t.Error("Holds of many")
	}
	got := Cols(or(and(l...), not(l[7]), two(1<<20, api.Eq, 0)))
	if len(got) != len(l)+2 || got[0] != 0 || got[len(l)] != len(l) || got[len(l)+1] != 1<<20 || !slices.IsSorted(got) {
		t.Errorf("Cols of many: %d", len(got))
	}
}

func TestCheckTakesRightOnes(t *testing.T) {
	right := []api.Pred{eq(0, 1), eq(3, -1), cmp(1, api.Lt, value.Str("")), cmp(4, api.Ge, value.Str(strings.Repeat("z", api.MaxText))), cmp(2, api.Ne, value.Is(true)), cmp(2, api.Eq, value.Is(false)),
		two(0, api.Eq, 3), two(3, api.Eq, 0), two(1, api.Lt, 4), two(2, api.Ge, 2), two(0, api.Ne, 0), null(0), null(1), null(2), null(3), null(4)}
	for i, p := range right {
		checks(t, nil, p)
		checks(t, nil, not(p))
		checks(t, nil, not(not(p)))
		for _, q := range right[i:] {
			checks(t, nil, and(p, q))
			checks(t, nil, or(q, p))
			checks(t, nil, and(or(p, q), not(q), and(q, p, q)))
		}
	}
	for _, op := range ops {
		checks(t, nil, cmp(0, op, value.Of(9)))
		checks(t, nil, two(1, op, 4))
	}
	checks(t, nil, and(right...))
	checks(t, nil, or(right...))
	checks(t, nil, api.Pred{Kind: api.IsNull, Col: 1, Op: 9, With: 99, Const: api.Value{Kind: 9}, L: []api.Pred{null(9)}})
	checks(t, nil, api.Pred{Kind: api.Cmp, Col: 0, Op: api.Eq, With: 99, Const: value.Of(1), L: []api.Pred{null(9)}})
	checks(t, nil, api.Pred{Kind: api.CmpCol, Col: 0, Op: api.Eq, With: 3, Const: value.Str("x"), L: []api.Pred{{}}})
	checks(t, nil, api.Pred{Kind: api.And, Col: 99, With: -1, Op: 9, L: []api.Pred{null(0), null(1)}})
}

func TestCheckOfColumnsThatAreNone(t *testing.T) {
	for _, c := range none {
		checks(t, api.ErrArity, null(c))
		checks(t, api.ErrArity, two(c, api.Eq, 0))
		checks(t, api.ErrArity, two(0, api.Eq, c))
		checks(t, api.ErrArity, two(c, api.Eq, c))
		for _, v := range []api.Value{value.Of(1), value.Str("x"), value.Is(true), {}, {Kind: 9}} {
			checks(t, api.ErrArity, cmp(c, api.Eq, v))
		}
	}
	for _, cols := range [][]int{nil, {}, types[:0]} {
		for _, p := range []api.Pred{null(0), eq(0, 1), two(0, api.Eq, 0)} {
			if Check(p, cols) != api.ErrArity {
				t.Errorf("Check(%+v, %v): %v", p, cols, Check(p, cols))
			}
		}
	}
	if Check(null(2), types[:2]) != api.ErrArity || Check(two(0, api.Eq, 3), types[:3]) != api.ErrArity {
		t.Error("a column behind the length is taken")
	}
}

func TestCheckOfOtherKinds(t *testing.T) {
	one := []api.Value{{}, value.Of(1), value.Str("x"), value.Is(true)}
	for c, kind := range types {
		for k, v := range one {
			want := api.ErrType
			if k == kind {
				want = nil
			}
			checks(t, want, cmp(c, api.Eq, v))
		}
		for d, other := range types {
			want := api.ErrType
			if other == kind {
				want = nil
			}
			checks(t, want, two(c, api.Eq, d))
		}
	}
}

func TestCheckOfConstantsThatAreNone(t *testing.T) {
	for _, v := range []api.Value{{}, {Kind: api.Int, S: "x"}, {Kind: api.Int, N: 1, S: "1"}} {
		checks(t, api.ErrType, cmp(0, api.Eq, v))
	}
	for _, v := range []api.Value{{}, {Kind: api.Text, N: 1}, {Kind: api.Text, N: -1, S: "x"}, value.Str(strings.Repeat("z", api.MaxText+1))} {
		checks(t, api.ErrType, cmp(1, api.Eq, v))
	}
	for _, v := range []api.Value{{}, {Kind: api.Bool, N: 2}, {Kind: api.Bool, N: -1}, {Kind: api.Bool, S: "x"}} {
		checks(t, api.ErrType, cmp(2, api.Eq, v))
	}
	for _, kind := range []int{api.Null, 4, -1} {
		if Check(cmp(0, api.Eq, api.Value{Kind: kind}), []int{kind}) != api.ErrType {
			t.Errorf("a constant of Kind %d is taken", kind)
		}
	}
}

func TestCheckOfOpsThatAreNone(t *testing.T) {
	for _, op := range wrongOps {
		checks(t, api.ErrType, cmp(0, op, value.Of(1)))
		checks(t, api.ErrType, cmp(1, op, value.Str("x")))
		checks(t, api.ErrType, two(0, op, 3))
		checks(t, api.ErrType, two(0, op, 0))
		checks(t, api.ErrArity, cmp(5, op, value.Of(1)))
		checks(t, api.ErrArity, two(5, op, 0))
		checks(t, api.ErrArity, two(0, op, -1))
	}
}

func TestCheckOfKindsThatAreNone(t *testing.T) {
	for _, kind := range wrong {
		checks(t, api.ErrType, api.Pred{Kind: kind})
		checks(t, api.ErrType, api.Pred{Kind: kind, Op: api.Eq, With: 3, Const: value.Of(1)})
		checks(t, api.ErrType, api.Pred{Kind: kind, Col: 99, With: -1})
		checks(t, api.ErrType, api.Pred{Kind: kind, L: []api.Pred{null(9)}})
		checks(t, api.ErrType, api.Pred{Kind: kind, L: []api.Pred{null(0), null(1)}})
	}
}

func TestCheckOfNumbersOfParts(t *testing.T) {
	good := null(0)
	for many := range 5 {
		l := slices.Repeat([]api.Pred{good}, many)
		want := error(nil)
		if many < 2 {
			want = api.ErrType
		}
		checks(t, want, and(l...))
		checks(t, want, or(l...))
		want = nil
		if many != 1 {
			want = api.ErrType
		}
		checks(t, want, not(l...))
	}
	l := []api.Pred{good, good}
	checks(t, api.ErrType, and(l[:1]...))
	checks(t, nil, not(l[:1]...))
	checks(t, api.ErrType, not(l[:0]...))
}

func TestCheckTellsTheOutermostFirst(t *testing.T) {
	bad := null(9)
	checks(t, api.ErrType, and(bad))
	checks(t, api.ErrType, or(bad))
	checks(t, api.ErrType, not(bad, bad))
	checks(t, api.ErrType, not(or(null(0), and(bad))))
	checks(t, api.ErrType, not(or(and(bad), bad)))
	checks(t, api.ErrArity, not(or(bad, and(bad))))
	checks(t, api.ErrArity, not(bad))
	checks(t, api.ErrArity, not(not(not(bad))))
}

func TestCheckTellsTheLeftmostFirst(t *testing.T) {
	good := null(0)
	arity := []api.Pred{null(9), eq(-1, 1), cmp(5, 0, api.Value{}), two(0, 0, 5), not(null(9)), and(good, null(9)), or(null(9), api.Pred{})}
	kinds := []api.Pred{{}, eq(1, 1), cmp(0, 0, value.Of(1)), two(0, api.Eq, 1), not(), and(null(9)), or(), not(null(9), null(9)), or(good, api.Pred{Kind: 7}), and(api.Pred{}, null(9))}
	for _, a := range arity {
		checks(t, api.ErrArity, a)
		for _, k := range kinds {
			checks(t, api.ErrType, k)
			for _, in := range []func(l ...api.Pred) api.Pred{and, or} {
				checks(t, api.ErrArity, in(a, k))
				checks(t, api.ErrType, in(k, a))
				checks(t, api.ErrArity, in(good, a, good, k))
				checks(t, api.ErrType, in(good, k, good, a))
				checks(t, api.ErrArity, in(good, good, good, a))
				checks(t, api.ErrType, in(good, good, in(good, good, k), a))
				checks(t, api.ErrArity, in(not(in(good, not(a))), k))
				checks(t, api.ErrType, in(not(in(good, not(k))), a))
				checks(t, api.ErrArity, in(in(good, good), a, in(k, k)))
			}
		}
	}
}

func TestCheckTellsTheErrorItself(t *testing.T) {
	if err := Check(null(9), nil); err != api.ErrArity || !errors.Is(err, api.ErrArity) {
		t.Errorf("%v", err)
	}
	if err := Check(api.Pred{}, nil); err != api.ErrType || !errors.Is(err, api.ErrType) {
		t.Errorf("%v", err)
	}
}

func TestShow(t *testing.T) {
	a, b, c := eq(0, 5), two(0, api.Lt, 1), null(2)
	shows(t, "#0 = 5", a)
	shows(t, "#0 < #1", b)
	shows(t, "#2 is null", c)
	shows(t, "not (#0 = 5)", not(a))
	shows(t, "not (not (#2 is null))", not(not(c)))
	shows(t, "(#0 = 5) and (#0 < #1)", and(a, b))
	shows(t, "(#0 < #1) and (#0 = 5)", and(b, a))
	shows(t, "(#0 = 5) or (#0 < #1) or (#2 is null)", or(a, b, c))
	shows(t, "(#0 = 5) and (#0 = 5) and (#0 = 5) and (#0 = 5)", and(a, a, a, a))
	shows(t, "((#0 = 5) or (#0 < #1)) and (not ((#2 is null) and (#0 = 5)))", and(or(a, b), not(and(c, a))))
	shows(t, "not ((#0 = 5) or (#2 is null))", not(or(a, c)))
	shows(t, "((#0 = 5) and (#0 < #1)) and (#2 is null)", and(and(a, b), c))
	shows(t, "(#0 = 5)", and(a))
	shows(t, "(#2 is null)", or(c))
	shows(t, "()", and())
	shows(t, "()", or())
	shows(t, "(()) or (())", or(and(), or()))
	shows(t, "not (())", not(and()))
}

func TestShowOfOpsColumnsAndConstants(t *testing.T) {
	for i, op := range ops {
		for _, c := range []int{0, 1, 9, 10, 15, 16, 1000, math.MaxInt, -1, math.MinInt} {
			at := "#" + strconv.Itoa(c)
			shows(t, at+" "+signs[i]+" 7", cmp(c, op, value.Of(7)))
			shows(t, at+" "+signs[i]+" #3", two(c, op, 3))
			shows(t, "#3 "+signs[i]+" "+at, two(3, op, c))
			shows(t, at+" is null", null(c))
		}
		for _, l := range append(rising(), []api.Value{{}}) {
			for _, v := range l {
				shows(t, "#4 "+signs[i]+" "+value.Show(v), cmp(4, op, v))
			}
		}
	}
	shows(t, "#1 != 'it''s'", cmp(1, api.Ne, value.Str("it's")))
	shows(t, "#1 >= ''", cmp(1, api.Ge, value.Str("")))
	shows(t, "#1 <= -9223372036854775808", cmp(1, api.Le, value.Of(math.MinInt64)))
	shows(t, "#1 = true", cmp(1, api.Eq, value.Is(true)))
	shows(t, "#1 = false", cmp(1, api.Eq, value.Is(false)))
	shows(t, "#1 = null", cmp(1, api.Eq, api.Value{}))
}

func TestShowOfWrongOnes(t *testing.T) {
	a := eq(0, 5)
	for _, kind := range wrong {
		shows(t, "", api.Pred{Kind: kind, Col: 1, Op: api.Eq, L: []api.Pred{a, a}})
		shows(t, "(#0 = 5) and ()", and(a, api.Pred{Kind: kind}))
	}
	for _, op := range wrongOps {
		shows(t, "#0  5", cmp(0, op, value.Of(5)))
		shows(t, "#0  #1", two(0, op, 1))
	}
	shows(t, "not ()", not())
	shows(t, "not (#0 = 5)", not(a, null(2)))
	shows(t, "#0 = ", cmp(0, api.Eq, api.Value{Kind: 9}))
}

func TestShowAsksNothingBeside(t *testing.T) {
	l := []api.Pred{null(7)}
	shows(t, "#0 = 5", api.Pred{Kind: api.Cmp, Op: api.Eq, With: 3, Const: value.Of(5), L: l})
	shows(t, "#0 = #3", api.Pred{Kind: api.CmpCol, Op: api.Eq, With: 3, Const: value.Of(5), L: l})
	shows(t, "#0 is null", api.Pred{Kind: api.IsNull, Op: api.Eq, With: 3, Const: value.Of(5), L: l})
	shows(t, "not (#7 is null)", api.Pred{Kind: api.Not, Col: 2, Op: api.Eq, With: 3, Const: value.Of(5), L: l})
	shows(t, "(#7 is null)", api.Pred{Kind: api.Or, Col: 2, Op: api.Eq, With: 3, Const: value.Of(5), L: l})
}

func TestSame(t *testing.T) {
	for _, same := range [][]api.Pred{
		{eq(0, 5), eq(0, 5), {Kind: api.Cmp, Op: api.Eq, Const: value.Of(5), With: 9, L: []api.Pred{null(0)}}},
		{and(), or(), {Kind: api.And, L: []api.Pred{}}, {Kind: api.Or, Col: 7}},
		{and(null(0)), or(null(0))},
		{not(and()), not(or())},
		{and(eq(0, 5), not(null(2))), and(eq(0, 5), not(null(2)))},
		{or(and(null(1)), null(2)), or(or(null(1)), null(2))},
	} {
		for _, a := range same {
			for _, b := range same {
				if !Same(a, b) {
					t.Errorf("Same(%+v, %+v): false", a, b)
				}
			}
		}
	}
}

// unlike is predicates that are all written otherwise.
func unlike() []api.Pred {
	var l []api.Pred
	for _, c := range []int{0, 1, 11} {
		l = append(l, null(c))
		for _, op := range ops {
			for _, v := range []api.Value{{}, value.Of(0), value.Of(1), value.Of(-1), value.Of(11), value.Str(""), value.Str("1"), value.Str("'"), value.Str("null"), value.Str("#1"), value.Is(true), value.Is(false)} {
				l = append(l, cmp(c, op, v))
			}
			for _, d := range []int{0, 1, 11} {
				l = append(l, two(c, op, d))
			}
		}
	}
	a, b := null(0), null(1)
	return append(l, and(), and(a), not(a), not(b), not(not(a)), and(a, a), or(a, a), and(a, b), and(b, a), or(a, b), or(b, a), and(a, a, a), and(and(a, a), a), and(a, and(a, a)), or(and(a, a), a), and(or(a, a), a), or(a, and(a, a)),
		not(and(a, b)), not(or(a, b)), and(not(a), b), and(a, not(b)), and(not(a), not(b)), cmp(1, api.Eq, value.Str("x') and (#0 is null")), and(cmp(1, api.Eq, value.Str("x")), a))
}

func TestSameTellsApart(t *testing.T) {
	l := unlike()
	for i, a := range l {
		for j, b := range l {
			if Same(a, b) != (i == j) || Same(a, b) != (Show(a) == Show(b)) {
				t.Errorf("Same(%+v, %+v): %t", a, b, i != j)
			}
		}
	}
}

func TestCols(t *testing.T) {
	asks(t, eq(3, 5), 3)
	asks(t, null(0), 0)
	asks(t, two(1, api.Lt, 4), 1, 4)
	asks(t, two(4, api.Lt, 1), 1, 4)
	asks(t, two(2, api.Ne, 2), 2)
	asks(t, not(eq(3, 5)), 3)
	asks(t, and())
	asks(t, or())
	asks(t, not())
	asks(t, and(null(2)), 2)
	asks(t, and(null(2), null(0), null(2), null(1)), 0, 1, 2)
	asks(t, or(null(15), null(9), null(10), null(9)), 9, 10, 15)
	asks(t, or(and(two(7, api.Eq, 3), null(5)), not(not(or(eq(5, 1), two(3, api.Lt, 0))))), 0, 3, 5, 7)
	asks(t, and(and(), or(), null(1), and()), 1)
	asks(t, and(null(math.MaxInt), null(0)), 0, math.MaxInt)
	for _, op := range ops {
		asks(t, cmp(6, op, value.Str("x")), 6)
		asks(t, cmp(6, op, api.Value{}), 6)
		asks(t, two(6, op, 2), 2, 6)
	}
}

func TestColsOfWrongOnes(t *testing.T) {
	for _, kind := range wrong {
		asks(t, api.Pred{Kind: kind, Col: 3, With: 4, L: []api.Pred{null(5)}})
		asks(t, and(null(2), api.Pred{Kind: kind, Col: 3}), 2)
	}
	for _, op := range wrongOps {
		asks(t, cmp(3, op, value.Of(1)), 3)
		asks(t, two(3, op, 1), 1, 3)
	}
	asks(t, not(null(3), null(4), null(5)), 3)
	asks(t, and(null(-1), null(3), null(-1)), -1, 3)
	l := []api.Pred{null(7)}
	asks(t, api.Pred{Kind: api.Cmp, Col: 1, With: 2, Op: api.Eq, L: l}, 1)
	asks(t, api.Pred{Kind: api.IsNull, Col: 1, With: 2, Op: api.Eq, L: l}, 1)
	asks(t, api.Pred{Kind: api.CmpCol, Col: 1, With: 2, Op: api.Eq, L: l}, 1, 2)
	asks(t, api.Pred{Kind: api.And, Col: 1, With: 2, L: l}, 7)
	asks(t, api.Pred{Kind: api.Not, Col: 1, With: 2, L: l}, 7)
}

func TestMap(t *testing.T) {
	cols := []int{7, 0, 1}
	maps(t, eq(0, 5), cols, eq(7, 5))
	maps(t, cmp(2, api.Ge, value.Str("x")), cols, cmp(1, api.Ge, value.Str("x")))
	maps(t, null(1), cols, null(0))
	maps(t, two(1, api.Lt, 2), cols, two(0, api.Lt, 1))
	maps(t, two(2, api.Lt, 1), cols, two(1, api.Lt, 0))
	maps(t, two(0, api.Lt, 0), cols, two(7, api.Lt, 7))
	maps(t, not(null(2)), cols, not(null(1)))
	maps(t, and(null(0), null(1), null(2), null(0)), cols, and(null(7), null(0), null(1), null(7)))
	maps(t, or(and(eq(0, 5), two(3, api.Le, 1), null(2)), not(cmp(2, api.Ne, value.Str("x'")))), cols, or(and(eq(7, 5), two(3, api.Le, 0), null(1)), not(cmp(1, api.Ne, value.Str("x'")))))
	maps(t, and(null(0), null(1)), []int{1, 0}, and(null(1), null(0)))
	maps(t, and(null(0), null(1), null(2)), []int{4, 4, 4}, and(null(4), null(4), null(4)))
	maps(t, two(0, api.Eq, 1), []int{math.MaxInt, -3}, two(math.MaxInt, api.Eq, -3))
	for _, op := range ops {
		for _, v := range []api.Value{value.Of(0), value.Str("x"), value.Is(true), {}} {
			maps(t, cmp(0, op, v), cols, cmp(7, op, v))
		}
	}
}

func TestMapOfColumnsThatThereAreNone(t *testing.T) {
	cols := []int{7, 0, 1, 9}
	for _, few := range [][]int{cols[:3], cols[:3:3]} {
		for _, c := range []int{3, 4, -1, math.MinInt, math.MaxInt} {
			maps(t, null(c), few, null(c))
			maps(t, eq(c, 5), few, eq(c, 5))
			maps(t, two(c, api.Eq, 0), few, two(c, api.Eq, 7))
			maps(t, two(0, api.Eq, c), few, two(7, api.Eq, c))
		}
	}
	for _, nothing := range [][]int{nil, {}, cols[:0]} {
		for _, p := range unlike() {
			maps(t, p, nothing, p)
		}
	}
	for _, p := range unlike() {
		maps(t, p, []int{0, 1, 2, 3, 4, 5, 6, 7, 8, 9, 10, 11}, p)
	}
}

func TestMapOfWrongOnes(t *testing.T) {
	cols := []int{7, 8, 9}
	for _, op := range wrongOps {
		maps(t, cmp(1, op, value.Of(5)), cols, cmp(8, op, value.Of(5)))
		maps(t, two(1, op, 2), cols, two(8, op, 9))
	}
	maps(t, cmp(1, api.Eq, api.Value{Kind: 9, N: 1, S: "x"}), cols, cmp(8, api.Eq, api.Value{Kind: 9, N: 1, S: "x"}))
	maps(t, not(null(0), null(1), not()), cols, not(null(7), null(8), not()))
	maps(t, and(null(0)), cols, and(null(7)))
	maps(t, and(), cols, and())
	maps(t, api.Pred{Kind: api.Or, L: []api.Pred{}}, cols, or())
	for _, kind := range wrong {
		maps(t, api.Pred{Kind: kind}, cols, api.Pred{Kind: kind})
	}
}

func TestMapHasNothingBeside(t *testing.T) {
	cols, full := []int{7, 8, 9}, api.Pred{Col: 1, Op: api.Lt, With: 2, Const: value.Of(5), L: []api.Pred{null(0)}}
	for kind, want := range map[int]api.Pred{api.Cmp: cmp(8, api.Lt, value.Of(5)), api.CmpCol: two(8, api.Lt, 9), api.IsNull: null(8), api.And: and(null(7)), api.Or: or(null(7)), api.Not: not(null(7)), 0: {}, 7: {Kind: 7}} {
		full.Kind = kind
		maps(t, full, cols, want)
		maps(t, and(full, full), cols, and(want, want))
	}
}

// some is a predicate of about that many parts, right or not.
func some(r *rand.Rand, size int) api.Pred {
	if size > 1 {
		p := api.Pred{Kind: api.And + r.Intn(3)}
		for range r.Intn(4) {
			p.L = append(p.L, some(r, size/2))
		}
		return p
	}
	v := []api.Value{{}, value.Of(0), value.Of(1), value.Str("a"), value.Str("b"), value.Is(true)}[r.Intn(6)]
	return api.Pred{Kind: r.Intn(5), Col: r.Intn(7) - 1, Op: r.Intn(8), With: r.Intn(7) - 1, Const: v}
}

func someRow(r *rand.Rand) api.Row {
	var l api.Row
	for range r.Intn(6) {
		l = append(l, []api.Value{{}, value.Of(0), value.Of(1), value.Str("a"), value.Str("b"), value.Is(true)}[r.Intn(6)])
	}
	return l
}

// spread copies p, every list in memory of its own with room behind it that holds what does not belong there.
func spread(p api.Pred) api.Pred {
	l := make([]api.Pred, 0, len(p.L)+2)
	for _, q := range p.L {
		l = append(l, spread(q))
	}
	copy(l[len(l):cap(l)], []api.Pred{yes(), no()})
	p.L = l
	return p
}

// behind tells whether what spread laid behind each list is there yet.
func behind(p api.Pred) bool {
	if tail := p.L[len(p.L):cap(p.L)]; len(tail) != 2 || !reflect.DeepEqual(tail, []api.Pred{yes(), no()}) {
		return false
	}
	return !slices.ContainsFunc(p.L, func(q api.Pred) bool { return !behind(q) })
}

func TestWhatComesInIsNotChanged(t *testing.T) {
	r := rand.New(rand.NewSource(1))
	for range 2000 {
		p := spread(some(r, 1+r.Intn(30)))
		kept := spread(p)
		cols := []int{3, 4, 1, 0, 9, 9}[:r.Intn(5)]
		l := someRow(r)
		keptRow, keptCols := row.Copy(l), slices.Clone(cols[:cap(cols)])
		first := []any{Holds(p, l), Check(p, cols), Show(p), Cols(p), Map(p, cols), Same(p, kept)}
		if !reflect.DeepEqual(p, kept) || !behind(p) || row.Compare(l, keptRow) != 0 || !slices.Equal(cols[:cap(cols)], keptCols) {
			t.Fatalf("changed: %+v, %v, %v", p, l, cols)
		}
		again := []any{Holds(kept, keptRow), Check(kept, cols), Show(kept), Cols(kept), Map(kept, cols), Same(kept, p)}
		if !reflect.DeepEqual(first, again) {
			t.Fatalf("%+v: %v, then %v", p, first, again)
		}
	}
}

// scribble writes over each list of p and what is behind it.
func scribble(p api.Pred) {
	for i, q := range p.L {
		scribble(q)
		p.L[i] = null(99)
	}
	for i := range p.L[len(p.L):cap(p.L)] {
		p.L[:cap(p.L)][len(p.L)+i] = null(98)
	}
}

func TestWhatGoesOutIsTheCallers(t *testing.T) {
	r := rand.New(rand.NewSource(2))
	for range 2000 {
		p := spread(some(r, 1+r.Intn(30)))
		kept := spread(p)
		one, other := Map(p, []int{1, 2, 3}), Map(p, []int{1, 2, 3})
		want := spread(other)
		scribble(one)
		if !reflect.DeepEqual(p, kept) || !behind(p) || !reflect.DeepEqual(spread(other), want) {
			t.Fatalf("a list of Map(%+v) is another's, too", kept)
		}
		scribble(p)
		if !reflect.DeepEqual(spread(other), want) {
			t.Fatalf("Map(%+v) shows what was written into what came in", kept)
		}
	}
	for _, p := range []api.Pred{and(null(3), null(1)), two(2, api.Eq, 0), null(5)} {
		one, other := Cols(p), Cols(p)
		want := slices.Clone(other)
		for i := range one[:cap(one)] {
			one[:cap(one)][i] = 99
		}
		if !slices.Equal(other, want) || !slices.Equal(Cols(p), want) {
			t.Errorf("a list of Cols(%+v) is another's, too", p)
		}
	}
}

func TestMapSharesNoListOfOneAnswer(t *testing.T) {
	l := []api.Pred{null(0), null(1)}
	p := or(and(l...), and(l...), or(l...), not(l[:1]...))
	got := Map(p, []int{5, 6})
	got.L[0].L[0] = null(99)
	_ = append(got.L[1].L, null(98))
	_ = append(got.L[3].L, null(97))
	maps(t, p, []int{5, 6}, or(and(null(5), null(6)), and(null(5), null(6)), or(null(5), null(6)), not(null(5))))
	if want := or(and(null(99), null(6)), and(null(5), null(6)), or(null(5), null(6)), not(null(5))); !reflect.DeepEqual(got, want) {
		t.Errorf("%+v", got)
	}
	if !reflect.DeepEqual(l, []api.Pred{null(0), null(1)}) {
		t.Errorf("what came in: %+v", l)
	}
}

// TestMapAsksTheSameElsewhere: what holds of a row holds, Mapped, of the row whose columns stand elsewhere.
func TestMapAsksTheSameElsewhere(t *testing.T) {
	r := rand.New(rand.NewSource(3))
	held := 0
	for range 20000 {
		p, l := some(r, 1+r.Intn(30)), someRow(r)
		to := r.Perm(len(l) + 3)
		moved := make(api.Row, len(l)+3)
		for i, v := range l {
			moved[to[i]] = v
		}
		cols := slices.Concat(to, []int{99, 98, 97, 96, 95, 94})
		if Holds(p, l) != Holds(Map(p, cols), moved) {
			t.Fatalf("%+v: of %v %t, elsewhere not", p, l, Holds(p, l))
		}
		if Holds(p, l) {
			held++
		}
	}
	if held < 2000 || held > 18000 {
		t.Errorf("%d of 20000 held", held)
	}
}

// TestColsAreThoseThatMatter: a row that is another one in no column of Cols is as the first one.
func TestColsAreThoseThatMatter(t *testing.T) {
	r := rand.New(rand.NewSource(4))
	for range 20000 {
		p, l := some(r, 1+r.Intn(30)), someRow(r)
		other := row.Copy(l)
		for i := range other {
			if !slices.Contains(Cols(p), i) {
				other[i] = value.Of(int64(r.Intn(3)))
			}
		}
		if Holds(p, l) != Holds(p, other) {
			t.Fatalf("%+v: of %v %t, of %v not", p, l, Holds(p, l), other)
		}
	}
}

// TestRightOnesAreAsTheyAreShown: of right predicates those that are written alike are the same.
func TestRightOnesAreAsTheyAreShown(t *testing.T) {
	r := rand.New(rand.NewSource(5))
	first := map[string]api.Pred{}
	for range 100000 {
		p := Map(some(r, 1+r.Intn(8)), nil)
		if Check(p, types) != nil {
			continue
		}
		q, is := first[Show(p)]
		if is && (!reflect.DeepEqual(p, q) || !Same(p, q)) {
			t.Fatalf("%+v and %+v: %s", p, q, Show(p))
		}
		first[Show(p)] = p
	}
	if len(first) < 300 {
		t.Errorf("%d right ones", len(first))
	}
}
