package join

import (
	"math"
	"math/big"
	"math/rand"
	"runtime"
	"slices"
	"strings"
	"testing"

	"belvedere/api"
	"belvedere/row"
	"belvedere/value"
	"belvedere/zset"
)

const (
	most  = math.MaxInt64
	least = math.MinInt64
)

// ints is the row of these numbers.
func ints(l ...int64) api.Row {
	r := api.Row{}
	for _, n := range l {
		r = append(r, value.Of(n))
	}
	return r
}

// many is the row r, w times.
func many(w int64, r ...api.Value) api.Entry { return api.Entry{Row: r, Weight: w} }

// one is the row (a), w times; two the row (a, b).
func one(a, w int64) api.Entry { return many(w, ints(a)...) }

func two(a, b, w int64) api.Entry { return many(w, ints(a, b)...) }

// times is the row of these numbers, w times.
func times(w int64, l ...int64) api.Entry { return many(w, ints(l...)...) }

// zs is a list of entries.
func zs(l ...api.Entry) []api.Entry { return l }

// on is a list of pairs.
func on(l ...[2]int) [][2]int { return l }

// alike holds entries against each other without the program's own calls.
func alike(a, b []api.Entry) bool {
	return slices.EqualFunc(a, b, func(x, y api.Entry) bool {
		return x.Weight == y.Weight && slices.Equal(x.Row, y.Row)
	})
}

// deepCopy is what l was, whatever a call does to it.
func deepCopy(l []api.Entry) []api.Entry {
	var own []api.Entry
	for _, e := range l {
		own = append(own, api.Entry{Row: slices.Clone(e.Row), Weight: e.Weight})
	}
	return own
}

func fits(t *testing.T, name string, pairs [][2]int, a, b api.Row, want bool) {
	t.Helper()
	if got := Fits(pairs, a, b); got != want {
		t.Errorf("%s: Fits(%v, %s, %s): %v", name, pairs, row.Show(a), row.Show(b), got)
	}
}

func joins(t *testing.T, name string, pairs [][2]int, a, b, want []api.Entry, wantErr error) {
	t.Helper()
	if got, err := Join(pairs, a, b); err != wantErr || !alike(got, want) {
		t.Errorf("%s: Join(%v, %v, %v): %v, %v; want %v, %v", name, pairs, a, b, got, err, want, wantErr)
	}
}

// values are right ones, each other than all the others.
func values() []api.Value {
	return []api.Value{
		{}, value.Of(least), value.Of(-1), value.Of(0), value.Of(1), value.Of(2), value.Of(10), value.Of(most),
		value.Str(""), value.Str("1"), value.Str("a"), value.Str("A"), value.Str("a "), value.Str("aa"), value.Str("null"), value.Str("it's"), value.Str("\xff"), value.Str(strings.Repeat("z", api.MaxText)),
		value.Is(false), value.Is(true),
	}
}

func TestFits(t *testing.T) {
	a, b := ints(1, 2, 3, 2), ints(2, 3, 1)
	for _, x := range []struct {
		name  string
		pairs [][2]int
		want  bool
	}{
		{"no pairs", nil, true},
		{"an empty list of pairs", on(), true},
		{"one pair that fits", on([2]int{0, 2}), true},
		{"one that doesn't", on([2]int{0, 0}), false},
		{"the last columns", on([2]int{3, 0}), true},
		{"the other way round", on([2]int{2, 0}), false},
		{"several that fit", on([2]int{0, 2}, [2]int{1, 0}, [2]int{2, 1}), true},
		{"only the first doesn't", on([2]int{0, 0}, [2]int{1, 0}, [2]int{2, 1}), false},
		{"only the one between doesn't", on([2]int{0, 2}, [2]int{1, 1}, [2]int{2, 1}), false},
		{"only the last doesn't", on([2]int{0, 2}, [2]int{1, 0}, [2]int{2, 2}), false},
		{"none fits", on([2]int{0, 0}, [2]int{1, 1}), false},
		{"the same twice", on([2]int{0, 2}, [2]int{0, 2}), true},
		{"the same twice that doesn't fit", on([2]int{0, 1}, [2]int{0, 1}), false},
		{"two share b's column", on([2]int{1, 0}, [2]int{3, 0}), true},
		{"two share b's column, and one doesn't fit", on([2]int{1, 0}, [2]int{2, 0}), false},
		{"two share a's column, and one doesn't fit", on([2]int{1, 0}, [2]int{1, 1}), false},
	} {
		fits(t, x.name, x.pairs, a, b, x.want)
	}
	fits(t, "two share a's column", on([2]int{1, 0}, [2]int{1, 1}), ints(1, 5), ints(5, 5), true)
	fits(t, "all with all", on([2]int{0, 0}, [2]int{0, 1}, [2]int{1, 0}, [2]int{1, 1}), ints(5, 5), ints(5, 5), true)
}

func TestFitsOfAllValues(t *testing.T) {
	for i, v := range values() {
		for k, w := range values() {
			want := i == k && v.Kind != api.Null
			fits(t, "two values", on([2]int{0, 0}), api.Row{v}, api.Row{w}, want)
			fits(t, "in several columns", on([2]int{1, 2}), api.Row{{}, v}, api.Row{{}, {}, w}, want)
			fits(t, "ahead of one that fits", on([2]int{0, 0}, [2]int{1, 1}), api.Row{v, value.Of(3)}, api.Row{w, value.Of(3)}, want)
			fits(t, "behind one that fits", on([2]int{0, 0}, [2]int{1, 1}), api.Row{value.Of(3), v}, api.Row{value.Of(3), w}, want)
			fits(t, "no pairs", nil, api.Row{v}, api.Row{w}, true)
		}
	}
}

func TestFitsOfNull(t *testing.T) {
	null := api.Value{}
	fits(t, "on both sides", on([2]int{0, 0}), api.Row{null}, api.Row{null}, false)
	fits(t, "on a's", on([2]int{0, 0}), api.Row{null}, ints(0), false)
	fits(t, "on b's", on([2]int{0, 0}), ints(0), api.Row{null}, false)
	fits(t, "in a column that isn't asked", on([2]int{1, 1}), api.Row{null, value.Of(1)}, api.Row{null, value.Of(1)}, true)
	fits(t, "in one of two", on([2]int{0, 0}, [2]int{1, 1}), api.Row{value.Of(1), null}, api.Row{value.Of(1), null}, false)
}

func TestFitsOfColumnsThatAreNone(t *testing.T) {
	a, b := ints(1, 1), ints(1, 1, 1)
	for _, c := range []int{-1, -2, -3, math.MinInt, 2, 3, 4, math.MaxInt} {
		if c != 2 {
			fits(t, "b's", on([2]int{0, c}), a, b, false)
			fits(t, "b's, behind one that fits", on([2]int{0, 0}, [2]int{0, c}), a, b, false)
		}
		fits(t, "a's", on([2]int{c, 0}), a, b, false)
		fits(t, "a's, ahead of one that fits", on([2]int{c, 0}, [2]int{0, 0}), a, b, false)
		fits(t, "of both", on([2]int{c, c}), a, b, false)
		fits(t, "of empty rows", on([2]int{c, c}), nil, api.Row{}, false)
	}
	fits(t, "b's last", on([2]int{0, 2}), a, b, true)
	fits(t, "the first of nothing", on([2]int{0, 0}), nil, nil, false)
	fits(t, "the first of nothing and of something", on([2]int{0, 0}), nil, b, false)
	fits(t, "the first of something and of nothing", on([2]int{0, 0}), a, nil, false)
	fits(t, "no pairs of nothing", nil, nil, nil, true)
	fits(t, "no pairs of nothing and of something", on(), api.Row{}, b, true)
	wide := ints(1, 1, 1)
	fits(t, "behind a's length", on([2]int{2, 0}), wide[:2], b, false)
	fits(t, "behind b's length", on([2]int{0, 2}), a, wide[:2], false)
	pairs := on([2]int{0, 0}, [2]int{7, 7})
	fits(t, "behind the pairs' length", pairs[:1], a, b, true)
}

func TestFitsOfWrongValues(t *testing.T) {
	null, wrong := api.Value{Kind: api.Null, N: 1, S: "x"}, api.Value{Kind: 9, S: "x"}
	fits(t, "Null with something beside", on([2]int{0, 0}), api.Row{null}, api.Row{null}, false)
	fits(t, "no Kind, alike", on([2]int{0, 0}), api.Row{wrong}, api.Row{wrong}, true)
	fits(t, "no Kind, not alike", on([2]int{0, 0}), api.Row{wrong}, api.Row{{Kind: 9, S: "y"}}, false)
	fits(t, "an Int with a text beside", on([2]int{0, 0}), api.Row{{Kind: api.Int, N: 1, S: "x"}}, ints(1), false)
	fits(t, "a Kind below 0", on([2]int{0, 0}), api.Row{{Kind: -1}}, api.Row{{Kind: -1}}, true)
}

func TestJoin(t *testing.T) {
	a := zs(two(1, 10, 2), two(2, 10, -1), two(3, 11, 1), two(4, 13, 7))
	b := zs(two(10, 5, 3), two(10, 6, 1), two(11, 3, -4), two(12, 4, 1))
	for _, x := range []struct {
		name  string
		pairs [][2]int
		want  []api.Entry
	}{
		{"one pair", on([2]int{1, 0}), zs(times(6, 1, 10, 10, 5), times(2, 1, 10, 10, 6), times(-3, 2, 10, 10, 5), times(-1, 2, 10, 10, 6), times(-4, 3, 11, 11, 3))},
		{"the same twice", on([2]int{1, 0}, [2]int{1, 0}), zs(times(6, 1, 10, 10, 5), times(2, 1, 10, 10, 6), times(-3, 2, 10, 10, 5), times(-1, 2, 10, 10, 6), times(-4, 3, 11, 11, 3))},
		{"several", on([2]int{1, 0}, [2]int{0, 1}), zs(times(-4, 3, 11, 11, 3))},
		{"several in another order", on([2]int{0, 1}, [2]int{1, 0}), zs(times(-4, 3, 11, 11, 3))},
		{"another one", on([2]int{0, 1}), zs(times(-4, 3, 11, 11, 3), times(7, 4, 13, 12, 4))},
		{"pairs that none fits", on([2]int{0, 0}), nil},
		{"pairs that share a's column", on([2]int{1, 0}, [2]int{1, 1}), nil},
		{"pairs that share b's column", on([2]int{1, 0}, [2]int{0, 0}), nil},
		{"a column behind a's", on([2]int{2, 0}), nil},
		{"a column behind b's", on([2]int{1, 2}), nil},
		{"a column of a's below 0", on([2]int{-1, 0}), nil},
		{"a column of b's below 0", on([2]int{1, -1}), nil},
		{"one that is none behind one that fits", on([2]int{1, 0}, [2]int{math.MaxInt, math.MinInt}), nil},
	} {
		joins(t, x.name, x.pairs, a, b, x.want, nil)
	}
	joins(t, "no pairs", nil, a[:2], b[1:3], zs(times(2, 1, 10, 10, 6), times(-8, 1, 10, 11, 3), times(-1, 2, 10, 10, 6), times(4, 2, 10, 11, 3)), nil)
	joins(t, "an empty list of pairs", on(), a[:1], b[:1], zs(times(6, 1, 10, 10, 5)), nil)
	joins(t, "pairs that share a's column and fit", on([2]int{0, 0}, [2]int{0, 1}), zs(one(5, 2), one(6, 3)), zs(two(5, 5, 1), two(5, 6, 1), two(6, 6, 5)), zs(times(2, 5, 5, 5), times(15, 6, 6, 6)), nil)
	joins(t, "pairs that share b's column and fit", on([2]int{0, 0}, [2]int{1, 0}), zs(two(5, 5, 1), two(5, 6, 1), two(6, 6, 5)), zs(one(5, 2), one(6, 3)), zs(times(2, 5, 5, 5), times(15, 6, 6, 6)), nil)
	joins(t, "with itself", on([2]int{1, 1}), a[:3], a[:3], zs(times(4, 1, 10, 1, 10), times(-2, 1, 10, 2, 10), times(-2, 2, 10, 1, 10), times(1, 2, 10, 2, 10), times(1, 3, 11, 3, 11)), nil)
}

func TestJoinOfNothing(t *testing.T) {
	z := zs(many(1), two(1, 1, most), two(2, 2, least))
	for _, pairs := range [][][2]int{nil, on(), on([2]int{0, 0}), on([2]int{-1, 5}), on([2]int{0, 0}, [2]int{1, 1})} {
		joins(t, "nothing with nothing", pairs, nil, nil, nil, nil)
		joins(t, "nothing with the empty list", pairs, nil, zs(), nil, nil)
		joins(t, "nothing with something", pairs, nil, z, nil, nil)
		joins(t, "the empty list with something", pairs, zs(), z, nil, nil)
		joins(t, "something with nothing", pairs, z, nil, nil, nil)
		joins(t, "something with the empty list", pairs, z, zs(), nil, nil)
	}
}

func TestJoinOfTheEmptyRow(t *testing.T) {
	z := zs(many(2), one(1, 3), two(1, 1, -5))
	joins(t, "ahead", nil, zs(many(7)), z, zs(many(14), one(1, 21), two(1, 1, -35)), nil)
	joins(t, "behind", nil, z, zs(many(7)), zs(many(14), one(1, 21), two(1, 1, -35)), nil)
	joins(t, "both", nil, zs(many(-3)), zs(many(-4)), zs(many(12)), nil)
	joins(t, "a pair", on([2]int{0, 0}), zs(many(1)), z, nil, nil)
	joins(t, "a pair, the other way round", on([2]int{0, 0}), z, zs(many(1)), nil, nil)
	joins(t, "a pair of empty ones", on([2]int{0, 0}), zs(many(1)), zs(many(1)), nil, nil)
}

func TestJoinOfAllValues(t *testing.T) {
	var z, fit []api.Entry
	for _, v := range values() {
		z = append(z, many(int64(len(z)+2), v))
		if v.Kind != api.Null {
			fit = append(fit, many(z[len(z)-1].Weight*z[len(z)-1].Weight, v, v))
		}
	}
	z, err := zset.Make(z...)
	if err != nil {
		t.Fatal(err)
	}
	fit, err = zset.Make(fit...)
	if err != nil || len(fit) != len(z)-1 {
		t.Fatal(fit, err)
	}
	joins(t, "each with itself", on([2]int{0, 0}), z, z, fit, nil)
	got, err := Join(nil, z, z)
	if err != nil || len(got) != len(z)*len(z) || !zset.Check(got) {
		t.Errorf("each with each: %d entries, %v", len(got), err)
	}
}

func TestJoinOfNull(t *testing.T) {
	null := api.Value{}
	a := zs(many(1, null, null), many(2, null, value.Of(1)), many(3, value.Of(1), null), many(4, value.Of(1), value.Of(1)))
	joins(t, "one pair", on([2]int{0, 1}), a[2:], a, zs(
		many(6, value.Of(1), null, null, value.Of(1)), many(12, value.Of(1), null, value.Of(1), value.Of(1)),
		many(8, value.Of(1), value.Of(1), null, value.Of(1)), many(16, value.Of(1), value.Of(1), value.Of(1), value.Of(1)),
	), nil)
	joins(t, "two pairs", on([2]int{0, 0}, [2]int{1, 1}), a, a, zs(many(16, value.Of(1), value.Of(1), value.Of(1), value.Of(1))), nil)
	joins(t, "all of a's are Null", on([2]int{0, 0}), a[:2], a, nil, nil)
	joins(t, "all of b's are Null", on([2]int{0, 0}), a, a[:2], nil, nil)
	joins(t, "no pairs", nil, a[:1], a[:1], zs(many(1, null, null, null, null)), nil)
}

func TestJoinOfRowsOfSeveralLengths(t *testing.T) {
	a := zs(many(3), one(1, 2), two(1, 2, 5), two(1, 3, 7), times(11, 2, 2, 2))
	b := zs(one(1, 1), two(1, 2, 10), two(2, 2, 100))
	joins(t, "the first ones", on([2]int{0, 0}), a, b, zs(times(2, 1, 1), times(20, 1, 1, 2), times(5, 1, 2, 1), times(50, 1, 2, 1, 2), times(7, 1, 3, 1), times(70, 1, 3, 1, 2), times(1100, 2, 2, 2, 2, 2)), nil)
	joins(t, "the second ones", on([2]int{1, 1}), a, b, zs(times(50, 1, 2, 1, 2), times(500, 1, 2, 2, 2), times(110, 2, 2, 2, 1, 2), times(1100, 2, 2, 2, 2, 2)), nil)
	joins(t, "the third of a", on([2]int{2, 0}), a, b, zs(times(1100, 2, 2, 2, 2, 2)), nil)
	joins(t, "the third of b", on([2]int{0, 2}), a, b, nil, nil)
}

// roads are two z-sets of which as many pairs of rows as there are fronts come to be the row (1, 2, 3, ..); each other pair comes to be a row of its own. The fronts are (1), (1, 2), .., the backs what is left behind each of them.
func roads(fronts, backs []int64) (a, b []api.Entry, whole api.Row) {
	for n := range len(fronts) + 1 {
		whole = append(whole, value.Of(int64(n+1)))
	}
	for i, w := range fronts {
		a = append(a, many(w, whole[:i+1]...))
		b = append(b, many(backs[i], whole[i+1:]...))
	}
	return a, b, whole
}

func TestJoinPutsWeightsTogether(t *testing.T) {
	const half = 1 << 62
	for _, x := range []struct {
		name          string
		fronts, backs []int64
		whole         int64
	}{
		{"one road", []int64{3}, []int64{5}, 15},
		{"two", []int64{2, 3}, []int64{5, 7}, 31},
		{"two, below 0", []int64{2, -3}, []int64{5, 7}, -11},
		{"three", []int64{2, 3, 4}, []int64{5, 7, 9}, 67},
		{"to 0", []int64{1, -1}, []int64{1, 1}, 0},
		{"to 0, of unlike ones", []int64{6, 4}, []int64{-2, 3}, 0},
		{"to 0, of three", []int64{1, 2, 3}, []int64{1, 1, -1}, 0},
		{"to 0, of the bounds", []int64{most, most}, []int64{1, -1}, 0},
		{"to the most", []int64{1, 1}, []int64{most - 1, 1}, most},
		{"to the least", []int64{1, -1}, []int64{least + 1, 1}, least},
		{"a product beyond, back to the most", []int64{2, 1}, []int64{half, -1}, most},
		{"a product beyond, the other one ahead", []int64{1, 2}, []int64{-1, half}, most},
		{"a product below, back to the least", []int64{3, 2}, []int64{-half, half / 2}, least},
		{"a product below, the other one ahead", []int64{2, 3}, []int64{half / 2, -half}, least},
		{"the least turned round, and one less", []int64{-1, 1}, []int64{least, -1}, most},
		{"a sum beyond, back to the most", []int64{1, 1, 1}, []int64{most, 7, -7}, most},
		{"a sum below, back to the least", []int64{1, 1, 1}, []int64{least, -7, 7}, least},
		{"a sum beyond, back to 0", []int64{1, 1, 1, 1}, []int64{half, half, -half, -half}, 0},
		{"a sum far beyond, back to 1", []int64{1, 1, 1, 1, 1, 1, 1}, []int64{most, most, most, least + 1, least + 1, least + 1, 1}, 1},
		{"a sum far below, back to the least", []int64{1, 1, 1, 1, 1, 1}, []int64{least, least, least, most, most, 2}, least},
	} {
		a, b, whole := roads(x.fronts, x.backs)
		want, err := joinedByHand(nil, a, b)
		if w := zset.Get(want, whole); err != nil || w != x.whole {
			t.Fatalf("%s: this test is wrong: %d, %v", x.name, w, err)
		}
		joins(t, x.name, nil, a, b, want, nil)
		a, b = append(zs(one(0, 1)), a...), append(b, one(99, 1))
		want, _ = joinedByHand(nil, a, b)
		joins(t, x.name+", beside others", nil, a, b, want, nil)
	}
}

func TestJoinTellsOver(t *testing.T) {
	const half = 1 << 62
	for _, x := range []struct {
		name          string
		fronts, backs []int64
	}{
		{"one more than the most", []int64{1, 1}, []int64{most, 1}},
		{"one more than the most, the other way round", []int64{1, 1}, []int64{1, most}},
		{"one less than the least", []int64{1, 1}, []int64{least, -1}},
		{"2^63 of two", []int64{1, 1}, []int64{half, half}},
		{"2^64 of four", []int64{1, 1, 1, 1}, []int64{half, half, half, half}},
		{"-2^64 of two", []int64{1, 1}, []int64{least, least}},
		{"2^64 of three", []int64{1, 1, 1}, []int64{most, most, 2}},
		{"beyond, and not wholly back", []int64{1, 1, 1}, []int64{most, 7, -6}},
		{"below, and not wholly back", []int64{1, 1, 1}, []int64{least, -7, 6}},
		{"a product beyond, and not wholly back", []int64{3, 1}, []int64{half, -1}},
	} {
		a, b, whole := roads(x.fronts, x.backs)
		joins(t, x.name, nil, a, b, nil, api.ErrOver)
		joins(t, x.name+", beside one ahead", nil, append(zs(one(0, 1)), a...), b, nil, api.ErrOver)
		joins(t, x.name+", beside ones behind", nil, append(a, one(99, 1)), append(b, one(99, 1)), nil, api.ErrOver)
		// Each road alone is within the bounds, or is told by itself.
		for i := range a {
			want, err := joinedByHand(nil, a[i:i+1], b[i:i+1])
			joins(t, x.name+", one road alone", nil, a[i:i+1], b[i:i+1], want, err)
			if err == nil && !slices.Equal(want[0].Row, whole) {
				t.Fatalf("%s: this test is wrong: %v", x.name, want)
			}
		}
	}
}

// edges are weights about the bounds and about 0, and those whose products are.
func edges() []int64 {
	return []int64{
		least, least + 1, least / 2, least/2 - 1, least/2 + 1, -3037000500, -3037000499, -1 << 33, -1 << 32, -1 << 31, -7, -3, -2, -1,
		1, 2, 3, 7, 1 << 31, 1 << 32, 1 << 33, 3037000499, 3037000500, most / 7, most/7 + 1, most / 3, most/3 + 1, most / 2, most/2 + 1, most/2 + 2, most - 1, most,
	}
}

func TestJoinOfProductsAtTheBounds(t *testing.T) {
	for _, v := range edges() {
		for _, w := range edges() {
			product := new(big.Int).Mul(big.NewInt(v), big.NewInt(w))
			want, wantErr := []api.Entry(nil), api.ErrOver
			if product.IsInt64() {
				want, wantErr = zs(times(product.Int64(), 1, 5, 5, 2)), nil
			}
			a, b := zs(two(1, 5, v)), zs(two(5, 2, w))
			joins(t, "one product", on([2]int{1, 0}), a, b, want, wantErr)
			joins(t, "one product, no pairs", nil, a, b, want, wantErr)
			joins(t, "one that doesn't fit", on([2]int{0, 0}), a, b, nil, nil)
			if wantErr == nil {
				want = append(append(zs(times(1, 0, 4, 4, 1)), want...), times(1, 2, 6, 6, 3))
			}
			joins(t, "one beside others", on([2]int{1, 0}), zs(two(0, 4, 1), two(1, 5, v), two(2, 6, 1)), zs(two(4, 1, 1), two(5, 2, w), two(6, 3, 1)), want, wantErr)
		}
	}
}

func TestJoinTellsOverOfAnyRow(t *testing.T) {
	for i := range 3 {
		for k := range 3 {
			a, b := zs(one(1, 1), one(2, 1), one(3, 1)), zs(two(1, 1, 1), two(1, 2, 1), two(2, 1, 1))
			a[i].Weight, b[k].Weight = most, 2
			joins(t, "each with each", nil, a, b, nil, api.ErrOver)
			var wantErr error
			var want []api.Entry
			if a[i].Row[0] == b[k].Row[0] {
				wantErr = api.ErrOver
			} else {
				want, _ = joinedByHand(on([2]int{0, 0}), a, b)
			}
			joins(t, "only rows that fit count", on([2]int{0, 0}), a, b, want, wantErr)
		}
	}
}

func TestJoinOfAllWeightsAtTheBounds(t *testing.T) {
	r := rand.New(rand.NewSource(1))
	l := edges()
	told := map[error]int{}
	for range 30000 {
		fronts, backs := make([]int64, 1+r.Intn(4)), make([]int64, 4)
		for i := range fronts {
			fronts[i], backs[i] = l[r.Intn(len(l))], l[r.Intn(len(l))]
			if r.Intn(2) == 0 {
				fronts[i] = int64(1 - 2*r.Intn(2))
			}
		}
		a, b, _ := roads(fronts, backs)
		want, wantErr := joinedByHand(nil, a, b)
		joins(t, "roads", nil, a, b, want, wantErr)
		told[wantErr]++
	}
	if told[nil] < 1000 || told[api.ErrOver] < 1000 {
		t.Errorf("too few of a kind: %v", told)
	}
}

// joinedByHand is Join by numbers without bounds, of any lists of entries.
func joinedByHand(pairs [][2]int, a, b []api.Entry) ([]api.Entry, error) {
	sums, rows := map[string]*big.Int{}, []api.Row{}
	for _, x := range a {
		for _, y := range b {
			if !fitByHand(pairs, x.Row, y.Row) {
				continue
			}
			r := append(slices.Clone(x.Row), y.Row...)
			key := row.Show(r)
			if sums[key] == nil {
				sums[key], rows = new(big.Int), append(rows, r)
			}
			product := new(big.Int).Mul(big.NewInt(x.Weight), big.NewInt(y.Weight))
			sums[key].Add(sums[key], product)
		}
	}
	slices.SortFunc(rows, row.Compare)
	var l []api.Entry
	for _, r := range rows {
		sum := sums[row.Show(r)]
		if !sum.IsInt64() {
			return nil, api.ErrOver
		}
		if sum.Sign() != 0 {
			l = append(l, many(sum.Int64(), r...))
		}
	}
	return l, nil
}

func fitByHand(pairs [][2]int, a, b api.Row) bool {
	for _, p := range pairs {
		if p[0] < 0 || p[0] >= len(a) || p[1] < 0 || p[1] >= len(b) || a[p[0]] != b[p[1]] || a[p[0]] == (api.Value{}) {
			return false
		}
	}
	return true
}

// randomZset is one of short rows of few values, so that rows often fit, and often come to be one.
func randomZset(r *rand.Rand, size, wide int, weights []int64) []api.Entry {
	few := []api.Value{{}, value.Of(1), value.Of(1), value.Of(2), value.Str("a"), value.Is(true)}
	byRow := map[string]api.Entry{}
	for range size {
		var l api.Row
		for range r.Intn(wide + 1) {
			l = append(l, few[r.Intn(len(few))])
		}
		byRow[row.Show(l)] = many(weights[r.Intn(len(weights))], l...)
	}
	var z []api.Entry
	for _, e := range byRow {
		z = append(z, e)
	}
	slices.SortFunc(z, func(x, y api.Entry) int { return row.Compare(x.Row, y.Row) })
	return z
}

func randomPairs(r *rand.Rand, wide int) [][2]int {
	var pairs [][2]int
	for range r.Intn(3) {
		pairs = append(pairs, [2]int{r.Intn(wide), r.Intn(wide)})
	}
	if r.Intn(20) == 0 {
		pairs = append(pairs, [2]int{r.Intn(wide+3) - 2, r.Intn(wide+3) - 2})
	}
	return pairs
}

func TestJoinOfAnyZsets(t *testing.T) {
	r := rand.New(rand.NewSource(2))
	small := []int64{1, -1, 2, -3, 5}
	great := append(small, most, least, 1<<62, -1<<62, most/2, 1<<31, -1<<32)
	told, together := map[error]int{}, 0
	for n := range 20000 {
		weights := small
		if n%2 == 0 {
			weights = great
		}
		wide := 1 + r.Intn(4)
		a, b, pairs := randomZset(r, r.Intn(9), wide, weights), randomZset(r, r.Intn(9), wide, weights), randomPairs(r, wide)
		want, wantErr := joinedByHand(pairs, a, b)
		joins(t, "any", pairs, a, b, want, wantErr)
		told[wantErr]++
		fit := 0
		for _, x := range a {
			for _, y := range b {
				ok := fitByHand(pairs, x.Row, y.Row)
				fits(t, "any", pairs, x.Row, y.Row, ok)
				if ok {
					fit++
				}
			}
		}
		if wantErr == nil && fit > len(want) {
			together++
		}
	}
	if told[nil] < 1000 || told[api.ErrOver] < 1000 || together < 300 {
		t.Errorf("too few of a kind: %v, %d", told, together)
	}
}

// Lists that are no z-sets are not promised anything but an end; each of their entries counts.
func TestJoinOfListsThatAreNoZsets(t *testing.T) {
	r := rand.New(rand.NewSource(3))
	mixed := func() []api.Entry {
		l := append(randomZset(r, 5, 3, []int64{1, -2, 0, most}), randomZset(r, 5, 3, []int64{1, -2, 0})...)
		r.Shuffle(len(l), func(i, k int) { l[i], l[k] = l[k], l[i] })
		return l
	}
	for range 3000 {
		a, b, pairs := mixed(), mixed(), randomPairs(r, 3)
		want, wantErr := joinedByHand(pairs, a, b)
		joins(t, "no z-sets", pairs, a, b, want, wantErr)
	}
	joins(t, "weights 0", nil, zs(one(1, 0), one(2, 3)), zs(one(1, 2), one(2, 0)), zs(two(2, 1, 6)), nil)
	joins(t, "2^128 of four", nil, zs(one(1, least), one(1, least), one(1, least), one(1, least)), zs(one(2, least)), nil, api.ErrOver)
	joins(t, "2^128 of four, and 1", nil, zs(one(1, least), one(1, least), one(1, least), one(1, least)), zs(one(2, least), one(2, 0)), nil, api.ErrOver)
	joins(t, "2^127 of two, and back", nil, zs(one(1, least), one(1, least), one(1, most), one(1, most), one(1, 2)), zs(one(2, least)), nil, nil)
	wrong := many(3, api.Value{Kind: 9, N: 5, S: "x"}, api.Value{Kind: -1})
	joins(t, "values of no Kind", on([2]int{0, 0}), zs(wrong), zs(wrong), zs(many(9, append(slices.Clone(wrong.Row), wrong.Row...)...)), nil)
}

func TestJoinOfWhatCancelsAlmostAllOut(t *testing.T) {
	const size = 100
	ones := slices.Repeat(ints(1), size)
	var b []api.Entry
	for n := 1; n < size; n++ {
		b = append(b, many(7, ones[:n]...))
	}
	want := zs(one(1, 7), many(-7, ones...))
	joins(t, "ahead", nil, zs(many(1), one(1, -1)), b, want, nil)
	joins(t, "behind", nil, b, zs(many(1), one(1, -1)), want, nil)
}

func TestJoinTellsOverAheadOfMakingAnAnswer(t *testing.T) {
	const size = 1 << 10
	var a []api.Entry
	for n := range int64(size) {
		a = append(a, two(n, n, 1))
	}
	a[size-1].Weight = 1 << 32
	var ahead, behind runtime.MemStats
	runtime.ReadMemStats(&ahead)
	got, err := Join(nil, a, a)
	runtime.ReadMemStats(&behind)
	if err != api.ErrOver || len(got) > 0 {
		t.Errorf("%d entries, %v", len(got), err)
	}
	if taken := behind.TotalAlloc - ahead.TotalAlloc; taken > size*size {
		t.Errorf("%d bytes were taken on the way", taken)
	}
}

func TestJoinOfManyPairs(t *testing.T) {
	const size = 1 << 10
	pairs := slices.Repeat(on([2]int{0, 1}, [2]int{1, 0}), size)
	var a, b, want []api.Entry
	for n := range int64(size) {
		a = append(a, two(n, n+1, n+1))
		b = append(b, two(n+1, n, 3))
		want = append(want, times(3*(n+1), n, n+1, n+1, n))
	}
	var ahead, behind runtime.MemStats
	runtime.ReadMemStats(&ahead)
	got, err := Join(pairs, a, b)
	runtime.ReadMemStats(&behind)
	if err != nil || !alike(got, want) {
		t.Errorf("%d entries, %v", len(got), err)
	}
	if taken := behind.TotalAlloc - ahead.TotalAlloc; taken > size*size {
		t.Errorf("%d bytes were taken on the way", taken)
	}
}

func TestComparisonOfRowsThatAreNotPutTogether(t *testing.T) {
	rows := []api.Row{nil}
	for from := 0; len(rows[from]) < 3; from++ {
		for n := range int64(2) {
			rows = append(rows, append(slices.Clone(rows[from]), value.Of(n)))
		}
	}
	for _, a := range rows {
		for _, b := range rows {
			x := joined{a, b}
			whole := append(slices.Clone(a), b...)
			if !slices.Equal(x.together(), whole) {
				t.Errorf("%v together: %v", x, x.together())
			}
			for _, c := range rows {
				for _, d := range rows {
					want := row.Compare(whole, append(slices.Clone(c), d...))
					if got := x.compare(joined{c, d}); got != want {
						t.Fatalf("%v, %v: %d, want %d", x, joined{c, d}, got, want)
					}
				}
			}
		}
	}
}

// call is Join with some pairs.
type call struct {
	name  string
	pairs [][2]int
	a, b  []api.Entry
}

// calls are such whose answers have rows of a's, of b's and of both, and several of one row.
func calls() []call {
	few := func() []api.Entry { return zs(two(1, 7, 1), two(2, 7, 1), two(3, 8, -1)) }
	return []call{
		{"no pairs", nil, few(), few()},
		{"one pair", on([2]int{1, 1}), few(), few()},
		{"several pairs", on([2]int{1, 1}, [2]int{0, 0}), few(), few()},
		{"the empty row ahead", nil, zs(many(1)), few()},
		{"the empty row behind", nil, few(), zs(many(1))},
		{"empty rows", nil, zs(many(2)), zs(many(3))},
		{"rows of several lengths", nil, zs(many(1), one(1, 1), two(1, 1, 1)), zs(many(1), one(1, 1), two(1, 1, 1))},
	}
}

func TestAnswersAreNewMemory(t *testing.T) {
	for _, c := range calls() {
		wasA, wasB, pairs := deepCopy(c.a), deepCopy(c.b), slices.Clone(c.pairs)
		first, err := Join(c.pairs, c.a, c.b)
		second, _ := Join(c.pairs, c.a, c.b)
		was := deepCopy(second)
		if err != nil || len(first) == 0 {
			t.Fatalf("%s: %v, %v", c.name, first, err)
		}
		writeAll(t, c.name, first)
		if !alike(c.a, wasA) || !alike(c.b, wasB) || !slices.Equal(c.pairs, pairs) {
			t.Errorf("%s: what was handed in shows what was written into the answer", c.name)
		}
		if !alike(second, was) {
			t.Errorf("%s: an answer shows what was written into another", c.name)
		}
		writeAll(t, c.name, c.a)
		writeAll(t, c.name, c.b)
		for i := range c.pairs {
			c.pairs[i] = [2]int{7, 7}
		}
		if !alike(second, was) {
			t.Errorf("%s: the answer shows what was written into what was handed in", c.name)
		}
	}
}

// writeAll writes into all of z, and behind what it has, and holds z's rows against each other on the way.
func writeAll(t *testing.T, name string, z []api.Entry) {
	for i := range z {
		was := deepCopy(z)
		_ = append(z[i].Row, value.Of(77))
		if !alike(z, was) {
			t.Errorf("%s: a row shows what was appended to another", name)
		}
		for k := range z[i].Row {
			z[i].Row[k] = value.Of(77)
		}
		if was[i].Row = z[i].Row; !alike(z, was) {
			t.Errorf("%s: a row shows what was written into another", name)
		}
		z[i].Weight = 77
	}
	_ = append(z, one(77, 77))
	_ = append(z[:0], one(77, 77))
}

func TestWhatIsHandedInIsNotChanged(t *testing.T) {
	unsorted := zs(two(2, 5, 1), two(1, 9, 2), two(3, 1, 3), two(1, 5, 4))
	a, b := zs(two(1, 5, 1), two(2, 9, 2), two(3, 1, 3)), zs(two(1, 9, 1), two(2, 5, 2), two(5, 1, 3), two(9, 2, most))
	for _, pairs := range [][][2]int{nil, on([2]int{1, 1}), on([2]int{1, 0}, [2]int{0, 1}), on([2]int{0, 0}), on([2]int{9, 0})} {
		for _, l := range [][2][]api.Entry{{a, b}, {b, a}, {a, a}, {unsorted, b}, {a, unsorted}, {b, b}} {
			wasFirst, wasSecond, wasPairs := deepCopy(l[0]), deepCopy(l[1]), slices.Clone(pairs)
			_, err := Join(pairs, l[0], l[1])
			Fits(pairs, l[0][0].Row, l[1][0].Row)
			if !alike(l[0], wasFirst) || !alike(l[1], wasSecond) || !slices.Equal(pairs, wasPairs) {
				t.Errorf("Join (%v) changed what was handed in: %v, %v, %v", err, pairs, l[0], l[1])
			}
		}
	}
}

func TestWhatLiesBehindTheLength(t *testing.T) {
	for _, c := range calls() {
		wideA, wideB := widen(c.a), widen(c.b)
		pairs := append(slices.Clone(c.pairs), [2]int{0, 1}, [2]int{7, 7})
		was := deepCopy(append(slices.Clone(wideA), wideB...))
		rowsWas := behind(wideA, wideB)
		got, err := Join(pairs[:len(c.pairs)], wideA[:len(c.a)], wideB[:len(c.b)])
		want, _ := Join(c.pairs, c.a, c.b)
		if err != nil || !alike(got, want) {
			t.Errorf("%s: what lies behind the length is read: %v, want %v", c.name, got, want)
		}
		writeAll(t, c.name, got)
		if !alike(append(slices.Clone(wideA), wideB...), was) || !alike(behind(wideA, wideB), rowsWas) {
			t.Errorf("%s: what lies behind the length is written: %v, %v", c.name, wideA, wideB)
		}
		if !slices.Equal(pairs[len(c.pairs):], on([2]int{0, 1}, [2]int{7, 7})) {
			t.Errorf("%s: what lies behind the pairs' length is written: %v", c.name, pairs)
		}
	}
}

// widen is z with an entry more, and each row with room behind it in which something stands.
func widen(z []api.Entry) []api.Entry {
	var wide []api.Entry
	for _, e := range append(slices.Clone(z), two(7, 7, 7)) {
		r := append(append(api.Row{}, e.Row...), ints(7, 8, 9)...)
		wide = append(wide, many(e.Weight, r[:len(e.Row)]...))
	}
	return wide
}

// behind is what widen put behind the rows of l.
func behind(l ...[]api.Entry) []api.Entry {
	var rest []api.Entry
	for _, e := range slices.Concat(l...) {
		n := len(e.Row)
		rest = append(rest, many(1, slices.Clone(e.Row[n:n+3])...))
	}
	return rest
}

func TestTextsAsTheyAre(t *testing.T) {
	long := value.Str(strings.Repeat("z", api.MaxText))
	a := zs(many(1, value.Str("it's")), many(2, long), many(3, value.Str("\xff")))
	b := zs(many(5, value.Str("it")), many(6, value.Str("it's")), many(7, long), many(8, value.Str("\xff")))
	joins(t, "texts", on([2]int{0, 0}), a, b, zs(many(6, value.Str("it's"), value.Str("it's")), many(14, long, long), many(24, value.Str("\xff"), value.Str("\xff"))), nil)
}
