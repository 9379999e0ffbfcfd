package group

import (
	"cmp"
	"math"
	"math/big"
	"math/rand"
	"runtime"
	"slices"
	"strings"
	"testing"

	"belvedere/api"
	"belvedere/row"
	"belvedere/value"
	"belvedere/zset"
)

const (
	most  = math.MaxInt64
	least = math.MinInt64
)

// null is the value Null.
var null = api.Value{}

// ints is the row of these numbers.
func ints(l ...int64) api.Row {
	r := api.Row{}
	for _, n := range l {
		r = append(r, value.Of(n))
	}
	return r
}

// many is the row r, w times.
func many(w int64, r ...api.Value) api.Entry { return api.Entry{Row: r, Weight: w} }

// one is the row (a), w times; two the row (a, b).
func one(a, w int64) api.Entry { return many(w, ints(a)...) }

func two(a, b, w int64) api.Entry { return many(w, ints(a, b)...) }

// times is the row of these numbers, w times.
func times(w int64, l ...int64) api.Entry { return many(w, ints(l...)...) }

// zs is a list of entries.
func zs(l ...api.Entry) []api.Entry { return l }

// once is the row r, once.
func once(r ...api.Value) api.Entry { return many(1, r...) }

// of is a list of aggs.
func of(l ...api.Agg) []api.Agg { return l }

func count() api.Agg { return api.Agg{Kind: api.Count} }

func sumOfCol(c int) api.Agg { return api.Agg{Kind: api.Sum, Col: c} }

func minOf(c int) api.Agg { return api.Agg{Kind: api.Min, Col: c} }

func maxOf(c int) api.Agg { return api.Agg{Kind: api.Max, Col: c} }

// each is all of them, of one column.
func each(c int) []api.Agg { return of(count(), sumOfCol(c), minOf(c), maxOf(c)) }

// alike holds entries against each other without the program's own calls.
func alike(a, b []api.Entry) bool {
	return slices.EqualFunc(a, b, func(x, y api.Entry) bool {
		return x.Weight == y.Weight && slices.Equal(x.Row, y.Row)
	})
}

// deepCopy is what l was, whatever a call does to it.
func deepCopy(l []api.Entry) []api.Entry {
	var own []api.Entry
	for _, e := range l {
		own = append(own, api.Entry{Row: slices.Clone(e.Row), Weight: e.Weight})
	}
	return own
}

// says holds against One what is reckoned of z.
func says(t *testing.T, name string, aggs []api.Agg, z []api.Entry, want ...api.Value) {
	t.Helper()
	if got, ok, err := One(aggs, z); err != nil || !ok || !slices.Equal(got, want) {
		t.Errorf("%s: One(%v, %v): %v, %v, %v; want %v", name, aggs, z, got, ok, err, want)
	}
}

// saysNothing holds against One that of z there is nothing, or an error.
func saysNothing(t *testing.T, name string, aggs []api.Agg, z []api.Entry, wantErr error) {
	t.Helper()
	if got, ok, err := One(aggs, z); err != wantErr || ok || len(got) > 0 {
		t.Errorf("%s: One(%v, %v): %v, %v, %v; want nothing, %v", name, aggs, z, got, ok, err, wantErr)
	}
}

func groups(t *testing.T, name string, keys []int, aggs []api.Agg, z, want []api.Entry, wantErr error) {
	t.Helper()
	if got, err := Group(keys, aggs, z); err != wantErr || !alike(got, want) {
		t.Errorf("%s: Group(%v, %v, %v): %v, %v; want %v, %v", name, keys, aggs, z, got, err, want, wantErr)
	}
}

// valueAt is r's value in column c, or Null.
func valueAt(r api.Row, c int) api.Value {
	for i, v := range r {
		if i == c {
			return v
		}
	}
	return null
}

// compareByHand is value.Compare.
func compareByHand(v, w api.Value) int {
	return cmp.Or(cmp.Compare(v.Kind, w.Kind), cmp.Compare(v.N, w.N), strings.Compare(v.S, w.S))
}

// reckonByHand is what a reckons of z, by numbers without bounds; false: it is beyond an int64.
func reckonByHand(a api.Agg, z []api.Entry) (api.Value, bool) {
	n, found, values := new(big.Int), 0, []api.Value{}
	for _, e := range z {
		v, w := valueAt(e.Row, a.Col), big.NewInt(e.Weight)
		if a.Kind == api.Count {
			n.Add(n, w)
			found++
		}
		if a.Kind == api.Sum && v.Kind == api.Int && e.Weight != 0 {
			n.Add(n, w.Mul(w, big.NewInt(v.N)))
			found++
		}
		if v.Kind != api.Null && e.Weight > 0 {
			values = append(values, v)
		}
	}
	slices.SortFunc(values, compareByHand)
	switch {
	case a.Kind == api.Min && len(values) > 0:
		return values[0], true
	case a.Kind == api.Max && len(values) > 0:
		return values[len(values)-1], true
	case found > 0:
		return api.Value{Kind: api.Int, N: n.Int64()}, n.IsInt64()
	}
	return null, true
}

// oneByHand is what One has to answer.
func oneByHand(aggs []api.Agg, z []api.Entry) (api.Row, bool, error) {
	weights, reckoned := new(big.Int), api.Row{}
	for _, e := range z {
		weights.Add(weights, big.NewInt(e.Weight))
	}
	if weights.Sign() <= 0 {
		return nil, false, nil
	}
	for _, a := range aggs {
		v, ok := reckonByHand(a, z)
		if !ok {
			return nil, false, api.ErrOver
		}
		reckoned = append(reckoned, v)
	}
	return reckoned, true, nil
}

// oneAsByHand holds One against oneByHand.
func oneAsByHand(t *testing.T, name string, aggs []api.Agg, z []api.Entry) {
	t.Helper()
	if want, ok, err := oneByHand(aggs, z); ok {
		says(t, name, aggs, z, want...)
	} else {
		saysNothing(t, name, aggs, z, err)
	}
}

// groupByHand is what Group has to answer.
func groupByHand(keys []int, aggs []api.Agg, z []api.Entry) ([]api.Entry, error) {
	rows, entries, names := map[string]api.Row{}, map[string][]api.Entry{}, []string{}
	for _, e := range z {
		var k api.Row
		for _, c := range keys {
			k = append(k, valueAt(e.Row, c))
		}
		name := row.Show(k)
		if entries[name] == nil {
			names, rows[name] = append(names, name), k
		}
		entries[name] = append(entries[name], e)
	}
	slices.SortFunc(names, func(a, b string) int { return slices.CompareFunc(rows[a], rows[b], compareByHand) })
	var want []api.Entry
	for _, name := range names {
		reckoned, ok, err := oneByHand(aggs, entries[name])
		if err != nil {
			return nil, err
		}
		if ok {
			want = append(want, once(slices.Concat(rows[name], reckoned)...))
		}
	}
	return want, nil
}

// groupsAsByHand holds Group against groupByHand, and is what that answers.
func groupsAsByHand(t *testing.T, name string, keys []int, aggs []api.Agg, z []api.Entry) ([]api.Entry, error) {
	t.Helper()
	want, err := groupByHand(keys, aggs, z)
	groups(t, name, keys, aggs, z, want, err)
	return want, err
}

// edges are weights about the bounds and about 0, and halves of the bounds.
func edges() []int64 {
	return []int64{least, least + 1, least/2 - 1, least / 2, -3, -2, -1, 0, 1, 2, 3, most / 2, most/2 + 1, most - 1, most}
}

func TestOneOfNothing(t *testing.T) {
	for _, aggs := range [][]api.Agg{nil, of(), each(0), each(-1)} {
		saysNothing(t, "nothing", aggs, nil, nil)
		saysNothing(t, "the empty list", aggs, zs(), nil)
	}
}

func TestOneOfWeightsTogether(t *testing.T) {
	for _, x := range []struct {
		name string
		z    []api.Entry
		is   bool
	}{
		{"once", zs(one(5, 1)), true},
		{"often", zs(one(5, 7)), true},
		{"the most", zs(one(5, most)), true},
		{"-1 times", zs(one(5, -1)), false},
		{"the least", zs(one(5, least)), false},
		{"several", zs(one(5, 1), one(6, 2)), true},
		{"several below 0", zs(one(5, -1), one(6, -2)), false},
		{"both signs, above 0", zs(one(5, -1), one(6, 2)), true},
		{"both signs, above 0, the other one ahead", zs(one(5, 2), one(6, -1)), true},
		{"both signs, at 0", zs(one(5, -2), one(6, 2)), false},
		{"both signs, at 0, the other one ahead", zs(one(5, 2), one(6, -2)), false},
		{"both signs, below 0", zs(one(5, -3), one(6, 2)), false},
		{"both signs, below 0, the other one ahead", zs(one(5, 2), one(6, -3)), false},
		{"the bounds, below 0", zs(one(5, least), one(6, most)), false},
		{"the bounds, at 0", zs(one(5, least), one(6, most), one(7, 1)), false},
		{"the bounds, above 0", zs(one(5, least), one(6, most), one(7, 2)), true},
		{"beyond", zs(one(5, most), one(6, 1)), true},
		{"beyond by 2^64", zs(one(5, most), one(6, most), one(7, 2)), true},
		{"beyond in between and back at 0", zs(one(5, most), one(6, most), one(7, -most), one(8, -most)), false},
		{"below", zs(one(5, least), one(6, -1)), false},
		{"below by 2^64", zs(one(5, least), one(6, least)), false},
		{"below by 2^64, and 1 more", zs(one(5, least), one(6, least), one(7, 1)), false},
		{"the empty row", zs(many(3)), true},
		{"the empty row below 0", zs(many(-3)), false},
		{"weight 0", zs(one(5, 0)), false},
	} {
		for _, aggs := range [][]api.Agg{nil, of(), of(minOf(1), minOf(1))} {
			if !x.is {
				saysNothing(t, x.name, aggs, x.z, nil)
				continue
			}
			says(t, x.name, aggs, x.z, make(api.Row, len(aggs))...)
		}
		if !x.is {
			saysNothing(t, x.name, each(0), x.z, nil)
		}
	}
}

func TestOneSaysNothingOfAGroupThatIsNoneEvenIfASumIsBeyond(t *testing.T) {
	saysNothing(t, "at 0", of(sumOfCol(0)), zs(one(5, 2), one(most, -2)), nil)
	saysNothing(t, "below 0", of(sumOfCol(0)), zs(one(5, 2), one(most, -3)), nil)
	saysNothing(t, "far below 0", each(0), zs(one(5, least), one(most, least)), nil)
	saysNothing(t, "of one", each(0), zs(one(least, -1)), nil)
}

func TestCount(t *testing.T) {
	for _, x := range []struct {
		name string
		z    []api.Entry
		want int64
	}{
		{"one row", zs(one(5, 1)), 1},
		{"one row often", zs(one(5, 9)), 9},
		{"several rows", zs(one(5, 1), one(6, 2), one(7, 3)), 6},
		{"both signs", zs(one(5, -1), one(6, 5), one(7, -2)), 2},
		{"Null", zs(many(2, null), one(5, 3)), 5},
		{"the empty row", zs(many(2), one(5, 3)), 5},
		{"the most", zs(one(5, most)), most},
		{"the most of two", zs(one(5, most-1), one(6, 1)), most},
		{"beyond in between, back at the most", zs(one(5, most), one(6, most), one(7, -most)), most},
		{"below in between, back at 1", zs(one(5, least), one(6, -1), one(7, most), one(8, 3)), 1},
		{"beyond by 2^64 in between", zs(one(5, most), one(6, most), one(7, 2), one(8, least), one(9, least), one(10, 4)), 4},
	} {
		for _, c := range []int{0, 1, 9, -1, math.MinInt, math.MaxInt} {
			says(t, x.name, of(api.Agg{Kind: api.Count, Col: c}), x.z, value.Of(x.want))
		}
	}
}

func TestCountBeyond(t *testing.T) {
	for _, z := range [][]api.Entry{
		zs(one(5, most), one(6, 1)),
		zs(one(5, 1), one(6, most)),
		zs(one(5, most), one(6, most)),
		zs(one(5, most), one(6, most), one(7, 2)),
		zs(one(5, most), one(6, most), one(7, 3)),
		zs(one(5, most), one(6, 2), one(7, -1)),
	} {
		saysNothing(t, "alone", of(count()), z, api.ErrOver)
		saysNothing(t, "ahead of others", of(count(), minOf(0)), z, api.ErrOver)
		saysNothing(t, "behind others", of(minOf(0), maxOf(0), count()), z, api.ErrOver)
		says(t, "not asked", of(minOf(0), sumOfCol(1)), z, z[0].Row[0], null)
	}
}

func TestCountOfAllWeights(t *testing.T) {
	for _, a := range edges() {
		for _, b := range edges() {
			for _, c := range edges() {
				oneAsByHand(t, "three weights", of(count()), zs(one(1, a), one(2, b), one(3, c)))
			}
		}
	}
}

func TestSum(t *testing.T) {
	for _, x := range []struct {
		name string
		z    []api.Entry
		want api.Value
	}{
		{"one row", zs(one(5, 1)), value.Of(5)},
		{"one row often", zs(one(5, 3)), value.Of(15)},
		{"a number below 0", zs(one(-5, 3)), value.Of(-15)},
		{"several", zs(one(5, 1), one(6, 2), one(7, 3)), value.Of(38)},
		{"weights below 0", zs(one(5, 10), one(6, -2), one(7, -3)), value.Of(17)},
		{"to below 0", zs(one(5, 4), one(7, -3)), value.Of(-1)},
		{"to 0", zs(one(3, 4), one(4, -3)), value.Of(0)},
		{"of 0", zs(one(0, 4)), value.Of(0)},
		{"Null beside", zs(many(7, null), one(5, 2)), value.Of(10)},
		{"Null beside, below 0", zs(many(-1, null), one(5, 2)), value.Of(10)},
		{"Null, and an Int below 0", zs(many(3, null), one(5, -1)), value.Of(-5)},
		{"Null, and Ints whose weights are 0 together", zs(many(3, null), one(5, -1), one(6, 1)), value.Of(1)},
		{"Null, and 0 below 0", zs(many(3, null), one(0, -1)), value.Of(0)},
		{"Null, and an Int of two rows that are nothing together", zs(many(3, null), two(5, 1, 1), two(5, 2, -1)), value.Of(0)},
		{"Null only", zs(many(3, null)), null},
		{"Texts beside", zs(one(5, 2), many(3, value.Str("7")), many(1, value.Str("a"))), value.Of(10)},
		{"Texts only", zs(many(3, value.Str("7"))), null},
		{"Bools beside", zs(one(5, 2), many(3, value.Is(false)), many(3, value.Is(true))), value.Of(10)},
		{"Bools only", zs(many(3, value.Is(true))), null},
		{"Null, Texts, Bools", zs(many(3, null), many(2, value.Str("")), many(1, value.Is(true))), null},
		{"rows without it", zs(many(3), one(5, 2)), value.Of(10)},
		{"only rows without it", zs(many(3)), null},
		{"an Int of weight 0 only", zs(many(3, null), one(5, 0)), null},
		{"an Int of weight 0 ahead of others", zs(one(5, 0), one(6, 2)), value.Of(12)},
		{"an Int of weight 0 behind others", zs(one(6, 2), one(7, 0)), value.Of(12)},
	} {
		says(t, x.name, of(sumOfCol(0)), x.z, x.want)
	}
}

func TestSumAtTheBounds(t *testing.T) {
	const half = 1 << 62
	over := value.Str("beyond")
	for _, x := range []struct {
		name string
		z    []api.Entry // Null often beside, so that the group is there
		want api.Value
	}{
		{"the most", zs(one(most, 1)), value.Of(most)},
		{"1 the most times", zs(one(1, most)), value.Of(most)},
		{"the least", zs(one(least, 1)), value.Of(least)},
		{"1 the least times", zs(one(1, least)), value.Of(least)},
		{"-1 the most times", zs(one(-1, most)), value.Of(-most)},
		{"-1 the most times and once more", zs(two(-1, 1, most), two(-1, 2, 1)), value.Of(least)},
		{"-1 the most times and twice more", zs(two(-1, 1, most), two(-1, 2, 2)), over},
		{"the most -1 times", zs(one(most, -1)), value.Of(-most)},
		{"the least -1 times", zs(one(least, -1)), over},
		{"-1 the least times", zs(one(-1, least)), over},
		{"the least -1 times, one less", zs(one(least, -1), one(-1, 1)), value.Of(most)},
		{"-1 the least times, one less", zs(one(-1, least), one(1, -1)), value.Of(most)},
		{"one more than the most", zs(one(1, 1), one(most, 1)), over},
		{"one more than the most, by a weight below 0", zs(one(-1, -1), one(most, 1)), over},
		{"one less than the least", zs(one(least, 1), one(-1, 1)), over},
		{"one less than the least, by a weight below 0", zs(one(least, 1), one(1, -1)), over},
		{"half of it twice", zs(one(half-1, 2), one(1, 1)), value.Of(most)},
		{"half of it twice, and one more", zs(one(half, 2)), over},
		{"half of it twice, below 0", zs(one(-half, 2)), value.Of(least)},
		{"half of it -2 times", zs(one(half, -2)), value.Of(least)},
		{"half of it -2 times, one less", zs(one(-1, 1), one(half, -2)), over},
		{"2^64", zs(one(half, 4)), over},
		{"2^64 and 5", zs(one(5, 1), one(half, 4)), over},
		{"-2^64", zs(one(least, 2)), over},
		{"the most, the most times", zs(one(most, most)), over},
		{"the least, the most times", zs(one(least, most)), over},
		{"the least, the least times", zs(one(least, least)), over},
		{"the most, the least times", zs(one(most, least)), over},
		{"beyond and back at the most", zs(one(-most, 1), one(most, 2)), value.Of(most)},
		{"beyond and back at the most, by a weight below 0", zs(one(most-1, -1), one(most, 2), one(-1, 1)), value.Of(most)},
		{"below and back at the least", zs(one(least, 2), one(1, 1), one(most, 1)), value.Of(least)},
		{"below and back at -2", zs(one(least, 2), one(most, 2)), value.Of(-2)},
		{"2^64 and back at 4", zs(one(-half, 4), one(4, 1), one(half, 4)), value.Of(4)},
		{"2^126 and back at 7", zs(two(least, 1, least), two(least, 2, half), two(least, 3, half), one(7, 1)), value.Of(7)},
		{"far beyond and back at -9", zs(one(-most, most), one(-3, 3), one(most, most)), value.Of(-9)},
		{"2^128 and 7", zs(two(least, 1, least), two(least, 2, least), two(least, 3, least), two(least, 4, least), one(7, 1)), over},
	} {
		for _, z := range [][]api.Entry{append(noInts(), x.z...), append(x.z, noInts()...)} {
			oneAsByHand(t, x.name, of(sumOfCol(0)), z)
			if x.want != over {
				says(t, x.name, of(sumOfCol(0)), z, x.want)
				continue
			}
			saysNothing(t, x.name, of(sumOfCol(0)), z, api.ErrOver)
			saysNothing(t, x.name, of(minOf(0), sumOfCol(0)), z, api.ErrOver)
			saysNothing(t, x.name, of(sumOfCol(0), sumOfCol(9)), z, api.ErrOver)
			saysNothing(t, x.name, of(sumOfCol(9), sumOfCol(0)), z, api.ErrOver)
			says(t, x.name, of(sumOfCol(9), minOf(9)), z, null, null)
		}
	}
}

// noInts are so many entries that no weights of a few others bring them to 0, with no Int in the first column.
func noInts() []api.Entry {
	l := zs(many(most, null), many(most, value.Str("7")), many(most, value.Is(true)))
	for n := range int64(5) {
		l = append(l, many(most, null, value.Of(n)))
	}
	return l
}

func TestMinAndMax(t *testing.T) {
	a, b, aa := value.Str("a"), value.Str("b"), value.Str("aa")
	no, yes := value.Is(false), value.Is(true)
	for _, x := range []struct {
		name       string
		z          []api.Entry
		least, max api.Value
	}{
		{"one row", zs(one(5, 1)), value.Of(5), value.Of(5)},
		{"one row often", zs(one(5, most)), value.Of(5), value.Of(5)},
		{"several, up", zs(one(5, 1), one(6, 9), one(7, 2)), value.Of(5), value.Of(7)},
		{"several, down", zs(one(7, 1), one(6, 9), one(5, 2)), value.Of(5), value.Of(7)},
		{"those between first", zs(one(6, 1), one(5, 9), one(7, 2)), value.Of(5), value.Of(7)},
		{"below 0", zs(one(-10, 1), one(-9, 1), one(2, 1)), value.Of(-10), value.Of(2)},
		{"as numbers, not as texts", zs(one(10, 1), one(9, 1)), value.Of(9), value.Of(10)},
		{"the bounds", zs(one(least, 1), one(0, 1), one(most, 1)), value.Of(least), value.Of(most)},
		{"the bounds, often", zs(one(least, 7), one(most, 7)), value.Of(least), value.Of(most)},
		{"weights below 0 at both ends", zs(one(1, -1), one(5, 3), one(6, 2), one(9, -3)), value.Of(5), value.Of(6)},
		{"a weight below 0 between", zs(one(1, 1), one(5, -1), one(6, 2)), value.Of(1), value.Of(6)},
		{"weights 0 at both ends", zs(one(1, 0), one(5, 3), one(6, 2), one(9, 0)), value.Of(5), value.Of(6)},
		{"only one above 0", zs(one(1, -1), one(5, 3), one(9, -1)), value.Of(5), value.Of(5)},
		{"alike in rows of both signs", zs(two(1, 1, -1), two(1, 2, 1), two(2, 1, 1), two(2, 2, -1), two(3, 1, 1)), value.Of(1), value.Of(3)},
		{"alike in rows that are nothing together", zs(two(1, 1, -1), two(1, 2, 1), two(2, 1, 1)), value.Of(1), value.Of(2)},
		{"Null beside", zs(many(2, null), one(-5, 1), one(6, 1)), value.Of(-5), value.Of(6)},
		{"Null behind", zs(one(-5, 1), one(6, 1), many(2, null)), value.Of(-5), value.Of(6)},
		{"Null only", zs(many(2, null)), null, null},
		{"Null, and others below 0", zs(many(3, null), one(5, -1), many(-1, a)), null, null},
		{"Null, and others of weight 0", zs(many(3, null), one(5, 0)), null, null},
		{"rows without it", zs(many(2), one(5, 1)), value.Of(5), value.Of(5)},
		{"only rows without it", zs(many(2)), null, null},
		{"Texts", zs(many(1, a), many(1, aa), many(1, b)), a, b},
		{"Texts byte by byte", zs(many(1, value.Str("B")), many(1, a), many(1, value.Str("\xff")), many(1, value.Str("é"))), value.Str("B"), value.Str("\xff")},
		{"the empty Text", zs(many(1, a), many(1, value.Str(""))), value.Str(""), a},
		{"Bools", zs(many(1, yes), many(1, no)), no, yes},
		{"one Bool", zs(many(1, yes), many(-1, no), one(9, 0), many(1, null)), yes, yes},
		{"several kinds", zs(one(7, 1), many(1, a), many(1, no)), value.Of(7), no},
		{"several kinds, the other way round", zs(many(1, no), many(1, a), one(7, 1)), value.Of(7), no},
		{"an Int and a Text", zs(many(1, value.Str("1")), one(most, 1)), value.Of(most), value.Str("1")},
		{"all of several kinds, Null too", zs(many(1, null), many(1, yes), many(1, a), one(-1, 1), many(1, b), one(1, 1)), value.Of(-1), yes},
	} {
		says(t, x.name, of(minOf(0)), x.z, x.least)
		says(t, x.name, of(maxOf(0)), x.z, x.max)
		says(t, x.name, of(maxOf(0), minOf(0), maxOf(0)), x.z, x.max, x.least, x.max)
		oneAsByHand(t, x.name, each(0), x.z)
	}
}

func TestOneOfColumns(t *testing.T) {
	z := zs(times(2, 1, 20, 300), times(3, 4, 50, 600))
	for c, want := range []api.Row{ints(5, 14, 1, 4), ints(5, 190, 20, 50), ints(5, 2400, 300, 600)} {
		says(t, "one that is there", each(c), z, want...)
	}
	for _, c := range []int{3, 4, 9, math.MaxInt, -1, -2, -3, math.MinInt} {
		says(t, "one that is none", each(c), z, value.Of(5), null, null, null)
		says(t, "beside one that is there", of(minOf(c), minOf(2), sumOfCol(c)), z, null, value.Of(300), null)
	}
	wide := ints(1, 2, 3)
	says(t, "behind the row's length", each(2), zs(many(3, wide[:2]...)), value.Of(3), null, null, null)
}

func TestOneOfRowsOfSeveralLengths(t *testing.T) {
	z := zs(many(1), one(9, 2), two(1, 5, 3), two(2, 8, -1), times(7, 3, 6, 1))
	says(t, "the first column", each(0), z, value.Of(12), value.Of(40), value.Of(1), value.Of(9))
	says(t, "the second column", each(1), z, value.Of(12), value.Of(49), value.Of(5), value.Of(6))
	says(t, "the third column", each(2), z, value.Of(12), value.Of(7), value.Of(1), value.Of(1))
	says(t, "the fourth column", each(3), z, value.Of(12), null, null, null)
}

func TestOneOfSeveralAggs(t *testing.T) {
	z := zs(two(1, 20, 2), two(4, 50, 3))
	says(t, "none", nil, z)
	says(t, "the empty list", of(), z)
	says(t, "in their order", of(maxOf(1), count(), sumOfCol(0), minOf(1)), z, ints(50, 5, 14, 20)...)
	says(t, "in another order", of(minOf(1), sumOfCol(0), count(), maxOf(1)), z, ints(20, 14, 5, 50)...)
	says(t, "the same twice", of(count(), count(), sumOfCol(1), sumOfCol(1)), z, ints(5, 5, 190, 190)...)
	says(t, "of several columns", of(sumOfCol(0), sumOfCol(1), sumOfCol(2), minOf(1), minOf(0)), z, value.Of(14), value.Of(190), null, value.Of(20), value.Of(1))
	aggs := of(count(), minOf(0), count())
	says(t, "behind the aggs' length", aggs[:2], z, ints(5, 1)...)
}

// What a Kind that is none reckons is not promised: it is Null, and the others are what they are.
func TestAggsOfNoKind(t *testing.T) {
	z := zs(one(5, most), one(6, 1))
	for _, kind := range []int{0, 5, 6, -1, math.MinInt, math.MaxInt} {
		says(t, "alone", of(api.Agg{Kind: kind}), z, null)
		says(t, "beside others", of(minOf(0), api.Agg{Kind: kind}, maxOf(0)), z, value.Of(5), null, value.Of(6))
		saysNothing(t, "beside one beyond", of(api.Agg{Kind: kind}, count()), z, api.ErrOver)
		groups(t, "in a group", []int{1}, of(api.Agg{Kind: kind}), z, zs(once(null, null)), nil)
	}
}

func TestOneOfWrongValues(t *testing.T) {
	kind, below := api.Value{Kind: 9, N: 5, S: "x"}, api.Value{Kind: -1, N: 3}
	z := zs(many(1, below), many(1, api.Value{S: "x"}), many(1, api.Value{N: 7}), one(4, 2), many(1, kind))
	says(t, "of no Kind, or Null with something beside", each(0), z, value.Of(6), value.Of(8), below, kind)
	says(t, "Null only", each(0), z[1:3], value.Of(2), null, null, null)
	says(t, "an Int with a text beside", of(sumOfCol(0)), zs(many(3, api.Value{Kind: api.Int, N: 4, S: "x"})), value.Of(12))
}

func TestOneOfEntriesInAnyOrder(t *testing.T) {
	z := zs(many(2, null), one(-3, 4), one(5, -1), one(7, 2), many(1, value.Str("a")))
	r := rand.New(rand.NewSource(1))
	for range 50 {
		r.Shuffle(len(z), func(i, k int) { z[i], z[k] = z[k], z[i] })
		says(t, "mixed", each(0), z, value.Of(8), value.Of(-3), value.Of(-3), value.Str("a"))
	}
	says(t, "a row twice", each(0), zs(one(5, 1), one(6, 1), one(5, 1)), ints(3, 16, 5, 6)...)
	says(t, "a row and its opposite", each(0), zs(one(5, 1), one(5, -1), many(1, null)), value.Of(1), value.Of(0), value.Of(5), value.Of(5))
}

func TestGroupOfNothing(t *testing.T) {
	for _, keys := range [][]int{nil, {}, {0}, {0, 1}, {-1}} {
		for _, aggs := range [][]api.Agg{nil, of(), each(0)} {
			groups(t, "nothing", keys, aggs, nil, nil, nil)
			groups(t, "the empty list", keys, aggs, zs(), nil, nil)
		}
	}
}

func TestGroup(t *testing.T) {
	z := zs(times(2, 1, 10, 5), times(1, 1, 11, 7), times(-1, 2, 10, 1), times(1, 3, 12, 4), times(-1, 3, 13, 4), times(1, 4, 9, 9), times(-1, 5, 10, 8), times(3, 5, 11, 6))
	all := each(2)
	for _, x := range []struct {
		name string
		keys []int
		aggs []api.Agg
		want []api.Entry
	}{
		{"one key", []int{0}, all, zs(times(1, 1, 3, 17, 5, 7), times(1, 4, 1, 9, 9, 9), times(1, 5, 2, 10, 6, 6))},
		{"another one, whose groups do not stand side by side", []int{1}, all, zs(times(1, 9, 1, 9, 9, 9), times(1, 11, 4, 25, 6, 7), times(1, 12, 1, 4, 4, 4))},
		{"several", []int{0, 1}, of(count()), zs(times(1, 1, 10, 2), times(1, 1, 11, 1), times(1, 3, 12, 1), times(1, 4, 9, 1), times(1, 5, 11, 3))},
		{"several in another order", []int{1, 0}, of(count()), zs(times(1, 9, 4, 1), times(1, 10, 1, 2), times(1, 11, 1, 1), times(1, 11, 5, 3), times(1, 12, 3, 1))},
		{"the same twice", []int{0, 0}, of(count()), zs(times(1, 1, 1, 3), times(1, 4, 4, 1), times(1, 5, 5, 2))},
		{"the same twice, apart", []int{1, 0, 1}, of(count()), zs(times(1, 9, 4, 9, 1), times(1, 10, 1, 10, 2), times(1, 11, 1, 11, 1), times(1, 11, 5, 11, 3), times(1, 12, 3, 12, 1))},
		{"no keys", nil, all, zs(times(1, 5, 35, 4, 9))},
		{"the empty list of keys", []int{}, all, zs(times(1, 5, 35, 4, 9))},
		{"no aggs", []int{0}, nil, zs(one(1, 1), one(4, 1), one(5, 1))},
		{"the empty list of aggs", []int{1}, of(), zs(one(9, 1), one(11, 1), one(12, 1))},
		{"neither keys nor aggs", nil, nil, zs(many(1))},
		{"aggs of a key's column", []int{0}, each(0), zs(times(1, 1, 3, 3, 1, 1), times(1, 4, 1, 4, 4, 4), times(1, 5, 2, 10, 5, 5))},
		{"the same agg twice", []int{0}, of(count(), count()), zs(times(1, 1, 3, 3), times(1, 4, 1, 1), times(1, 5, 2, 2))},
		{"all columns", []int{0, 1, 2}, nil, zs(times(1, 1, 10, 5), times(1, 1, 11, 7), times(1, 3, 12, 4), times(1, 4, 9, 9), times(1, 5, 11, 6))},
		{"a key that none has", []int{3}, of(count()), zs(once(null, value.Of(5)))},
		{"a key below 0", []int{-1}, of(count()), zs(once(null, value.Of(5)))},
		{"a key that none has, and one that all have", []int{7, 0}, of(count()), zs(once(null, value.Of(1), value.Of(3)), once(null, value.Of(4), value.Of(1)), once(null, value.Of(5), value.Of(2)))},
		{"an agg's column that none has", []int{0}, of(sumOfCol(3), maxOf(-1)), zs(once(value.Of(1), null, null), once(value.Of(4), null, null), once(value.Of(5), null, null))},
	} {
		groups(t, x.name, x.keys, x.aggs, z, x.want, nil)
		if got, err := groupsAsByHand(t, x.name, x.keys, x.aggs, z); err != nil || !zset.Check(got) {
			t.Errorf("%s: no z-set: %v, %v", x.name, got, err)
		}
	}
}

func TestGroupsThatAreNone(t *testing.T) {
	for _, keys := range [][]int{nil, {0}, {0, 1}, {9}} {
		groups(t, "below 0", keys, each(0), zs(two(1, 1, -1)), nil, nil)
		groups(t, "the least", keys, each(0), zs(two(1, 1, least), two(1, 2, least)), nil, nil)
	}
	z := zs(two(1, 1, 2), two(1, 2, -2), two(2, 1, 3), two(3, 1, 1), two(3, 2, -2), two(4, 1, 5))
	groups(t, "at 0 and below, among others", []int{0}, of(count()), z, zs(two(2, 3, 1), two(4, 5, 1)), nil)
	groups(t, "at 0, of all", nil, each(0), zs(one(1, 1), one(2, -1)), nil, nil)
	groups(t, "all of them", []int{0}, each(0), zs(two(1, 1, 2), two(1, 2, -2), two(2, 1, -1)), nil, nil)
	groups(t, "those of Null", []int{0}, nil, zs(many(-1, null), one(1, 1)), zs(one(1, 1)), nil)
}

func TestGroupOfNullKeys(t *testing.T) {
	z := zs(many(1), many(2, null), many(4, null, null), many(8, null, value.Of(0)), one(0, 16), many(32, value.Of(0), null), two(0, 0, 64))
	groups(t, "the first", []int{0}, of(count()), z, zs(once(null, value.Of(15)), two(0, 112, 1)), nil)
	groups(t, "the second", []int{1}, of(count()), z, zs(once(null, value.Of(55)), two(0, 72, 1)), nil)
	groups(t, "both", []int{0, 1}, of(count()), z, zs(once(null, null, value.Of(7)), once(null, value.Of(0), value.Of(8)), once(value.Of(0), null, value.Of(48)), times(1, 0, 0, 64)), nil)
	groups(t, "the other way round", []int{1, 0}, of(count()), z, zs(once(null, null, value.Of(7)), once(null, value.Of(0), value.Of(48)), once(value.Of(0), null, value.Of(8)), times(1, 0, 0, 64)), nil)
	groups(t, "the third", []int{2}, of(count(), sumOfCol(1)), z, zs(once(null, value.Of(127), value.Of(0))), nil)
	wide := ints(1, 2, 3)
	groups(t, "behind the rows' length", []int{2}, of(sumOfCol(2)), zs(many(3, wide[:1]...), many(2, wide[:2]...)), zs(once(null, null)), nil)
}

func TestGroupOfRowsOfSeveralLengths(t *testing.T) {
	z := zs(many(2), one(1, 3), two(1, 2, 4), times(5, 1, 2, 3), two(2, 2, -1), times(6, 2, 2, 1))
	groups(t, "the first", []int{0}, of(count(), sumOfCol(2)), z, zs(once(null, value.Of(2), null), times(1, 1, 12, 15), times(1, 2, 5, 6)), nil)
	groups(t, "the second", []int{1}, of(count(), maxOf(2)), z, zs(once(null, value.Of(5), null), times(1, 2, 14, 3)), nil)
	groups(t, "the third", []int{2}, of(count(), minOf(0)), z, zs(once(null, value.Of(8), value.Of(1)), times(1, 1, 6, 2), times(1, 3, 5, 1)), nil)
}

// inOrder are values in value.Compare's order.
func inOrder() []api.Value {
	return []api.Value{
		null, value.Of(least), value.Of(-10), value.Of(-9), value.Of(0), value.Of(9), value.Of(10), value.Of(most),
		value.Str(""), value.Str("1"), value.Str("10"), value.Str("9"), value.Str("A"), value.Str("a"), value.Str("a'"), value.Str("aa"), value.Str("null"), value.Str(strings.Repeat("z", api.MaxText)), value.Str("\xff"),
		value.Is(false), value.Is(true),
	}
}

func TestGroupsStandInOrder(t *testing.T) {
	var z, want, counts, twice []api.Entry
	for i, v := range inOrder() {
		// The other column turns the order round, and so do the weights.
		z = append(z, many(int64(100-i), value.Of(int64(-i)), v))
		want = append(want, once(v))
		counts = append(counts, once(v, value.Of(int64(100-i))))
		for _, w := range inOrder() {
			twice = append(twice, once(v, w))
		}
	}
	slices.Reverse(z)
	if !zset.Check(z) {
		t.Fatal("this test takes no z-set")
	}
	groups(t, "values of all kinds", []int{1}, nil, z, want, nil)
	groups(t, "with counts", []int{1}, of(count()), z, counts, nil)
	groups(t, "two keys", []int{0, 1}, nil, twice, twice, nil)
	groups(t, "two keys, the other way round", []int{1, 0}, nil, twice, twice, nil)
}

func TestGroupTellsOver(t *testing.T) {
	fine := func() []api.Entry { return zs(two(1, 5, 2), two(2, 5, 2), two(3, 5, 2), two(4, 5, 2)) }
	for place := range fine() {
		k := int64(place + 1)
		beyond := append(fine(), two(k, most, 1), two(k, most-1, 1))
		groups(t, "a Sum", []int{0}, of(sumOfCol(1)), beyond, nil, api.ErrOver)
		groups(t, "a Sum among others", []int{0}, of(count(), minOf(1), sumOfCol(1), maxOf(1)), beyond, nil, api.ErrOver)
		groups(t, "a Sum that is not asked", []int{0}, of(count()), beyond, countsBut(place, 4), nil)
		beyond = append(fine(), two(k, 6, most))
		groups(t, "a Count", []int{0}, of(count()), beyond, nil, api.ErrOver)
		groups(t, "a Count, and no keys", nil, of(maxOf(0), count()), beyond, nil, api.ErrOver)
		groups(t, "a Count that is not asked", []int{0}, nil, beyond, zs(one(1, 1), one(2, 1), one(3, 1), one(4, 1)), nil)
		beyond = append(fine(), two(k, most, -1), two(k, most-1, -1))
		groups(t, "of a group that is none", []int{0}, of(count(), sumOfCol(1)), beyond, slices.Delete(zs(times(1, 1, 2, 10), times(1, 2, 2, 10), times(1, 3, 2, 10), times(1, 4, 2, 10)), place, place+1), nil)
	}
	groups(t, "the bounds", []int{0}, of(count(), sumOfCol(1)), zs(two(1, 1, most), two(2, least, 1), two(3, most, 1), two(4, -1, most)), zs(times(1, 1, most, most), times(1, 2, 1, least), times(1, 3, 1, most), times(1, 4, most, -most)), nil)
	groups(t, "beyond together only", []int{0}, of(count(), sumOfCol(1)), zs(two(1, 1, most), two(2, most, 1), two(3, 1, most)), zs(times(1, 1, most, most), times(1, 2, 1, most), times(1, 3, most, most)), nil)
	groups(t, "both beyond on the way and back", []int{0}, of(count(), sumOfCol(1)), zs(two(1, 1, most), two(1, 2, most), two(1, 3, -most), two(2, 1, 1)), zs(times(1, 1, most, 0), times(1, 2, 1, 1)), nil)
	groups(t, "a Count beyond on the way and back", []int{0}, of(count()), zs(two(1, 1, most), two(1, 2, most), two(1, 3, -most), two(2, 1, 1)), zs(two(1, most, 1), two(2, 1, 1)), nil)
	groups(t, "a Sum beyond on the way and back", []int{0}, of(sumOfCol(1)), zs(two(1, -most, 3), two(1, most, 4), two(2, 1, 1)), zs(two(1, most, 1), two(2, 1, 1)), nil)
}

// countsBut is the groups 1 to 4, each counted twice, but the one at that place so often.
func countsBut(place int, often int64) []api.Entry {
	l := zs(two(1, 2, 1), two(2, 2, 1), two(3, 2, 1), two(4, 2, 1))
	l[place].Row[1] = value.Of(often)
	return l
}

// randomZset is one of few rows of at most so many of few values.
func randomZset(r *rand.Rand, size, wide int, weights []int64) []api.Entry {
	few := []api.Value{null, value.Of(-1), value.Of(0), value.Of(2), value.Of(3), value.Str("a"), value.Str("b"), value.Is(true)}
	if r.Intn(3) == 0 {
		few = append(few, value.Of(most), value.Of(least), value.Of(1<<62), value.Of(-1<<62))
	}
	byRow := map[string]api.Entry{}
	for range size {
		var l api.Row
		for range r.Intn(wide + 1) {
			l = append(l, few[r.Intn(len(few))])
		}
		byRow[row.Show(l)] = many(weights[r.Intn(len(weights))], l...)
	}
	var z []api.Entry
	for _, e := range byRow {
		z = append(z, e)
	}
	slices.SortFunc(z, func(x, y api.Entry) int { return row.Compare(x.Row, y.Row) })
	return z
}

func randomKeys(r *rand.Rand, wide int) []int {
	var keys []int
	for range r.Intn(4) {
		keys = append(keys, r.Intn(wide+2)-1)
	}
	return keys
}

func randomAggs(r *rand.Rand, wide int) []api.Agg {
	var aggs []api.Agg
	for range r.Intn(5) {
		aggs = append(aggs, api.Agg{Kind: 1 + r.Intn(4), Col: r.Intn(wide+2) - 1})
	}
	return aggs
}

func TestGroupOfAnyZset(t *testing.T) {
	r := rand.New(rand.NewSource(2))
	small := []int64{1, 2, 3, -1, -2, 5, 9}
	great := append(small, edges()...)
	great = slices.DeleteFunc(great, func(w int64) bool { return w == 0 })
	told, none := map[error]int{}, 0
	for n := range 20000 {
		weights := small
		if n%3 == 0 {
			weights = great
		}
		wide := 1 + r.Intn(4)
		z, keys, aggs := randomZset(r, r.Intn(12), wide, weights), randomKeys(r, wide), randomAggs(r, wide)
		got, err := groupsAsByHand(t, "any", keys, aggs, z)
		oneAsByHand(t, "any", aggs, z)
		if !zset.Check(got) {
			t.Errorf("no z-set: %v", got)
		}
		told[err]++
		if there, _ := Group(keys, nil, z); len(z) > 0 && err == nil && len(there) == 0 {
			none++
		}
	}
	if told[nil] < 5000 || told[api.ErrOver] < 500 || none < 1000 {
		t.Errorf("too few of a kind: %v, %d", told, none)
	}
}

// Lists that are no z-sets are not promised anything but an end; each of their entries counts.
func TestGroupOfListsThatAreNoZsets(t *testing.T) {
	r := rand.New(rand.NewSource(3))
	for range 5000 {
		l := append(randomZset(r, 6, 3, []int64{1, -2, 0, 3, most}), randomZset(r, 6, 3, []int64{1, -2, 0, 3})...)
		r.Shuffle(len(l), func(i, k int) { l[i], l[k] = l[k], l[i] })
		groupsAsByHand(t, "no z-set", randomKeys(r, 3), randomAggs(r, 3), l)
	}
	groups(t, "weights 0", []int{0}, of(count()), zs(one(1, 0), one(2, 3), one(2, 0)), zs(two(2, 3, 1)), nil)
	kind, below := api.Value{Kind: 9, N: 5, S: "x"}, api.Value{Kind: -1}
	groups(t, "values of no Kind", []int{0}, of(count()), zs(many(2, kind), many(3, below), many(4, null)), zs(once(below, value.Of(3)), once(null, value.Of(4)), once(kind, value.Of(2))), nil)
}

func TestGroupOfManyRows(t *testing.T) {
	const size, parts = 30000, 100
	var z, want []api.Entry
	for n := range int64(size) {
		z = append(z, times(2, n, n%parts, 1))
	}
	for k := range int64(parts) {
		want = append(want, times(1, k, 2*size/parts, 2*size/parts, k, size-parts+k))
	}
	groups(t, "few groups", []int{1}, of(count(), sumOfCol(2), minOf(0), maxOf(0)), z, want, nil)
	want = nil
	for n := range int64(size) {
		want = append(want, times(1, n, n%parts))
	}
	groups(t, "many groups", []int{0}, of(minOf(1)), z, want, nil)
}

func TestGroupOfManyKeys(t *testing.T) {
	const size = 1 << 10
	keys := slices.Repeat([]int{1, -1, 0, 2}, size)
	var z []api.Entry
	for n := range int64(size) {
		z = append(z, times(1, 7, 8, 9, n))
	}
	want := zs(once(append(slices.Repeat(api.Row{value.Of(8), null, value.Of(7), value.Of(9)}, size), value.Of(size))...))
	var ahead, behind runtime.MemStats
	runtime.ReadMemStats(&ahead)
	got, err := Group(keys, of(count()), z)
	runtime.ReadMemStats(&behind)
	if err != nil || !alike(got, want) {
		t.Errorf("%d entries, %v", len(got), err)
	}
	if taken := behind.TotalAlloc - ahead.TotalAlloc; taken > 2*size*size {
		t.Errorf("%d bytes were taken on the way", taken)
	}
}

// call is Group with something.
type call struct {
	name string
	keys []int
	aggs []api.Agg
	z    []api.Entry
}

// calls are such whose answers have keys, what is reckoned, both and neither, and values of z as they are.
func calls() []call {
	few := func() []api.Entry {
		return zs(times(1, 1, 7, 5), times(2, 1, 8, 6), times(3, 2, 7, 4), times(-1, 3, 7, 4))
	}
	return []call{
		{"one key", []int{0}, of(count(), minOf(2)), few()},
		{"several keys", []int{1, 0}, of(maxOf(2)), few()},
		{"the same key twice", []int{1, 1}, nil, few()},
		{"no aggs", []int{0}, nil, few()},
		{"all columns", []int{0, 1, 2}, nil, few()},
		{"no keys", nil, of(minOf(0), maxOf(1), sumOfCol(2), count()), few()},
		{"neither keys nor aggs", nil, nil, few()},
		{"columns that are none", []int{5, -1}, of(minOf(9), sumOfCol(-1)), few()},
		{"of one entry", []int{0, 1, 2}, of(minOf(0)), few()[:1]},
	}
}

func TestAnswersAreNewMemory(t *testing.T) {
	for _, c := range calls() {
		wasZ, keys, aggs := deepCopy(c.z), slices.Clone(c.keys), slices.Clone(c.aggs)
		first, err := Group(c.keys, c.aggs, c.z)
		second, _ := Group(c.keys, c.aggs, c.z)
		was := deepCopy(second)
		if err != nil || len(first) == 0 {
			t.Fatalf("%s: %v, %v", c.name, first, err)
		}
		writeAll(t, c.name, first)
		if !alike(c.z, wasZ) || !slices.Equal(c.keys, keys) || !slices.Equal(c.aggs, aggs) {
			t.Errorf("%s: what was handed in shows what was written into the answer", c.name)
		}
		if !alike(second, was) {
			t.Errorf("%s: an answer shows what was written into another", c.name)
		}
		writeAll(t, c.name, c.z)
		for i := range c.keys {
			c.keys[i] = 7
		}
		for i := range c.aggs {
			c.aggs[i] = count()
		}
		if !alike(second, was) {
			t.Errorf("%s: the answer shows what was written into what was handed in", c.name)
		}
	}
}

func TestOnesAnswersAreNewMemory(t *testing.T) {
	for _, c := range calls() {
		wasZ, aggs := deepCopy(c.z), slices.Clone(c.aggs)
		first, ok, err := One(c.aggs, c.z)
		second, _, _ := One(c.aggs, c.z)
		was := slices.Clone(second)
		if err != nil || !ok {
			t.Fatalf("%s: %v, %v, %v", c.name, first, ok, err)
		}
		for i := range first {
			first[i] = value.Of(77)
		}
		_ = append(first, value.Of(77))
		_ = append(first[:0], value.Of(77))
		if !alike(c.z, wasZ) || !slices.Equal(c.aggs, aggs) || !slices.Equal(second, was) {
			t.Errorf("%s: what was written into the answer is seen elsewhere", c.name)
		}
		writeAll(t, c.name, c.z)
		for i := range c.aggs {
			c.aggs[i] = count()
		}
		if !slices.Equal(second, was) {
			t.Errorf("%s: the answer shows what was written into what was handed in", c.name)
		}
	}
}

// writeAll writes into all of z, and behind what it has, and holds z's rows against each other on the way.
func writeAll(t *testing.T, name string, z []api.Entry) {
	for i := range z {
		was := deepCopy(z)
		_ = append(z[i].Row, value.Of(77))
		if !alike(z, was) {
			t.Errorf("%s: a row shows what was appended to another", name)
		}
		for k := range z[i].Row {
			z[i].Row[k] = value.Of(77)
		}
		if was[i].Row = z[i].Row; !alike(z, was) {
			t.Errorf("%s: a row shows what was written into another", name)
		}
		z[i].Weight = 77
	}
	_ = append(z, one(77, 77))
	_ = append(z[:0], one(77, 77))
}

func TestWhatIsHandedInIsNotChanged(t *testing.T) {
	unsorted := zs(two(2, 5, 1), two(1, 9, 2), two(3, 1, 3), two(1, 5, 4))
	beyond := zs(two(1, 9, 1), two(2, 5, 2), two(5, 1, 3), two(9, most, most))
	apart := zs(two(1, 9, 1), two(2, 5, 1), two(3, 9, 1), two(4, 5, 1))
	for _, keys := range [][]int{nil, {1}, {1, 0}, {0}, {9}} {
		for _, z := range [][]api.Entry{unsorted, beyond, apart} {
			aggs := of(maxOf(1), sumOfCol(1), count(), minOf(0))
			wasZ, wasKeys, wasAggs := deepCopy(z), slices.Clone(keys), slices.Clone(aggs)
			_, err := Group(keys, aggs, z)
			_, _, errOne := One(aggs, z)
			if !alike(z, wasZ) || !slices.Equal(keys, wasKeys) || !slices.Equal(aggs, wasAggs) {
				t.Errorf("Group, One (%v, %v) changed what was handed in: %v, %v, %v", err, errOne, keys, aggs, z)
			}
		}
	}
}

func TestWhatLiesBehindTheLength(t *testing.T) {
	for _, c := range calls() {
		wide := widen(c.z)
		keys, aggs := append(slices.Clone(c.keys), 1, 7), append(slices.Clone(c.aggs), sumOfCol(0), count())
		was, rowsWas := deepCopy(wide), behind(wide)
		got, err := Group(keys[:len(c.keys)], aggs[:len(c.aggs)], wide[:len(c.z)])
		want, _ := Group(c.keys, c.aggs, c.z)
		if err != nil || !alike(got, want) {
			t.Errorf("%s: what lies behind the length is read: %v, want %v", c.name, got, want)
		}
		writeAll(t, c.name, got)
		r, _, _ := One(aggs[:len(c.aggs)], wide[:len(c.z)])
		if wantRow, _, _ := One(c.aggs, c.z); !slices.Equal(r, wantRow) {
			t.Errorf("%s: what lies behind the length is read: %v, want %v", c.name, r, wantRow)
		}
		_ = append(r, value.Of(77))
		if !alike(wide, was) || !alike(behind(wide), rowsWas) {
			t.Errorf("%s: what lies behind the length is written: %v", c.name, wide)
		}
		if !slices.Equal(keys[len(c.keys):], []int{1, 7}) || !slices.Equal(aggs[len(c.aggs):], of(sumOfCol(0), count())) {
			t.Errorf("%s: what lies behind the length is written: %v, %v", c.name, keys, aggs)
		}
	}
}

// widen is z with an entry more, and each row with room behind it in which something stands.
func widen(z []api.Entry) []api.Entry {
	var wide []api.Entry
	for _, e := range append(slices.Clone(z), two(7, 7, 7)) {
		r := append(append(api.Row{}, e.Row...), ints(7, 8, 9)...)
		wide = append(wide, many(e.Weight, r[:len(e.Row)]...))
	}
	return wide
}

// behind is what widen put behind the rows of z.
func behind(z []api.Entry) []api.Entry {
	var rest []api.Entry
	for _, e := range z {
		n := len(e.Row)
		rest = append(rest, many(1, slices.Clone(e.Row[n:n+3])...))
	}
	return rest
}
