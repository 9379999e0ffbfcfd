package linear

import (
	"math"
	"math/big"
	"math/rand"
	"reflect"
	"runtime"
	"slices"
	"strings"
	"testing"

	"belvedere/api"
	"belvedere/pred"
	"belvedere/row"
	"belvedere/value"
	"belvedere/zset"
)

const (
	most  = math.MaxInt64
	least = math.MinInt64
)

// ints is the row of these numbers.
func ints(l ...int64) api.Row {
	r := api.Row{}
	for _, n := range l {
		r = append(r, value.Of(n))
	}
	return r
}

// many is the row r, w times.
func many(w int64, r ...api.Value) api.Entry { return api.Entry{Row: r, Weight: w} }

// one is the row (a), w times; two the row (a, b).
func one(a, w int64) api.Entry { return many(w, ints(a)...) }

func two(a, b, w int64) api.Entry { return many(w, ints(a, b)...) }

// zs is a list of entries.
func zs(l ...api.Entry) []api.Entry { return l }

// alike holds entries against each other without the program's own calls.
func alike(a, b []api.Entry) bool {
	return slices.EqualFunc(a, b, func(x, y api.Entry) bool {
		return x.Weight == y.Weight && slices.Equal(x.Row, y.Row)
	})
}

// deepCopy is what l was, whatever a call does to it.
func deepCopy(l []api.Entry) []api.Entry {
	var own []api.Entry
	for _, e := range l {
		own = append(own, api.Entry{Row: slices.Clone(e.Row), Weight: e.Weight})
	}
	return own
}

func filters(t *testing.T, name string, p api.Pred, z, want []api.Entry) {
	t.Helper()
	if got := Filter(p, z); !alike(got, want) {
		t.Errorf("%s: Filter(%s, %v): %v, want %v", name, pred.Show(p), z, got, want)
	}
}

func projects(t *testing.T, name string, cols []int, z, want []api.Entry, wantErr error) {
	t.Helper()
	if got, err := Project(cols, z); err != wantErr || !alike(got, want) {
		t.Errorf("%s: Project(%v, %v): %v, %v; want %v, %v", name, cols, z, got, err, want, wantErr)
	}
}

func unites(t *testing.T, name string, a, b, want []api.Entry, wantErr error) {
	t.Helper()
	if got, err := Union(a, b); err != wantErr || !alike(got, want) {
		t.Errorf("%s: Union(%v, %v): %v, %v; want %v, %v", name, a, b, got, err, want, wantErr)
	}
}

// kinds is a z-set of three columns of several Kinds, each column's values more than once, weights at their bounds among them.
func kinds() []api.Entry {
	return zs(
		many(1, api.Value{}, api.Value{}, api.Value{}),
		many(-2, api.Value{}, value.Of(2), value.Str("a")),
		many(most, value.Of(least), value.Is(true), value.Of(1)),
		many(4, value.Of(1), api.Value{}, value.Is(false)),
		many(least, value.Of(1), value.Of(2), value.Of(1)),
		many(6, value.Of(1), value.Str(""), value.Str("a")),
		many(-7, value.Of(2), value.Of(1), api.Value{}),
		many(8, value.Of(2), value.Of(1), value.Of(1)),
		many(9, value.Str(""), value.Str("a"), value.Str("")),
		many(-10, value.Str("a"), api.Value{}, value.Of(most)),
		many(11, value.Is(false), value.Is(false), value.Is(true)),
		many(12, value.Is(true), value.Of(2), api.Value{}),
	)
}

// at is z's entries at these places.
func at(z []api.Entry, places ...int) []api.Entry {
	var l []api.Entry
	for _, i := range places {
		l = append(l, z[i])
	}
	return l
}

func cmp(col, op int, v api.Value) api.Pred {
	return api.Pred{Kind: api.Cmp, Col: col, Op: op, Const: v}
}

func TestTheseTestsTakeZsets(t *testing.T) {
	if !zset.Check(kinds()) {
		t.Error("kinds is no z-set")
	}
}

func TestFilter(t *testing.T) {
	z := kinds()
	isOne, null := cmp(0, api.Eq, value.Of(1)), api.Pred{Kind: api.IsNull, Col: 1}
	both := []api.Pred{isOne, null}
	for _, x := range []struct {
		name   string
		p      api.Pred
		places []int
	}{
		{"equal", isOne, []int{3, 4, 5}},
		{"not equal, of one Kind", cmp(0, api.Ne, value.Of(1)), []int{2, 6, 7}},
		{"less", cmp(0, api.Lt, value.Of(1)), []int{2}},
		{"at least", cmp(0, api.Ge, value.Of(1)), []int{3, 4, 5, 6, 7}},
		{"a text", cmp(2, api.Eq, value.Str("a")), []int{1, 5}},
		{"the first only", cmp(0, api.Eq, value.Of(least)), []int{2}},
		{"two columns", api.Pred{Kind: api.CmpCol, Col: 1, Op: api.Gt, With: 2}, []int{4, 8}},
		{"Null", null, []int{0, 3, 9}},
		{"and", api.Pred{Kind: api.And, L: both}, []int{3}},
		{"or", api.Pred{Kind: api.Or, L: both}, []int{0, 3, 4, 5, 9}},
		{"not", api.Pred{Kind: api.Not, L: both[:1]}, []int{0, 1, 2, 6, 7, 8, 9, 10, 11}},
		{"held against Null", cmp(0, api.Eq, api.Value{}), nil},
		{"the last of all", cmp(0, api.Eq, value.Is(true)), []int{11}},
		{"the first of all", api.Pred{Kind: api.IsNull, Col: 2}, []int{0, 6, 11}},
	} {
		filters(t, x.name, x.p, z, at(z, x.places...))
	}
}

func TestFilterOfAllAndOfNone(t *testing.T) {
	z := kinds()
	for _, p := range []api.Pred{
		{Kind: api.And},
		{Kind: api.Not, L: []api.Pred{{Kind: api.Or}}},
		{Kind: api.IsNull, Col: 3},
		{Kind: api.IsNull, Col: -1},
	} {
		filters(t, "all", p, z, z)
		filters(t, "all of nothing", p, nil, nil)
		filters(t, "all of the empty list", p, zs(), nil)
	}
	for _, p := range []api.Pred{
		{},
		{Kind: 7},
		{Kind: -1, L: []api.Pred{{Kind: api.And}}},
		{Kind: math.MaxInt},
		{Kind: api.Or},
		{Kind: api.Not},
		{Kind: api.Not, L: []api.Pred{{Kind: api.And}, {Kind: api.Or}}},
		cmp(0, 0, value.Of(1)),
		cmp(0, 7, value.Of(1)),
		cmp(3, api.Ne, value.Of(1)),
		cmp(-1, api.Ne, value.Of(1)),
		cmp(0, api.Eq, value.Of(77)),
		{Kind: api.CmpCol, Col: 0, Op: api.Eq, With: 3},
		{Kind: api.CmpCol, Col: math.MinInt, Op: api.Eq, With: 0},
	} {
		filters(t, "none", p, z, nil)
		filters(t, "none of nothing", p, nil, nil)
		filters(t, "none of the empty list", p, zs(), nil)
	}
}

func TestFilterOfRowsOfSeveralLengths(t *testing.T) {
	z := zs(many(3), one(1, -1), two(1, 2, 5), two(2, 2, most), one(3, least))
	filters(t, "the second is there", cmp(1, api.Eq, value.Of(2)), z, at(z, 2, 3))
	filters(t, "the second is not there", api.Pred{Kind: api.IsNull, Col: 1}, z, at(z, 0, 1, 4))
	filters(t, "the empty row", api.Pred{Kind: api.IsNull, Col: 0}, z, at(z, 0))
	filters(t, "all", api.Pred{Kind: api.And}, z, z)
}

// randomPred is a predicate, right or wrong, of at most so many parts in one another.
func randomPred(r *rand.Rand, deep int) api.Pred {
	values := []api.Value{{}, value.Of(1), value.Of(2), value.Str("a"), value.Is(true), value.Is(false)}
	p := api.Pred{Kind: r.Intn(8), Col: r.Intn(5) - 1, Op: r.Intn(8), With: r.Intn(5) - 1, Const: values[r.Intn(len(values))]}
	if deep > 0 {
		for range r.Intn(4) {
			p.L = append(p.L, randomPred(r, deep-1))
		}
	}
	return p
}

func TestFilterIsWhatThePredicateHoldsOf(t *testing.T) {
	r := rand.New(rand.NewSource(1))
	z := kinds()
	for range 20000 {
		p := randomPred(r, 3)
		var want, rest []api.Entry
		for _, e := range z {
			if pred.Holds(p, e.Row) {
				want = append(want, e)
			} else {
				rest = append(rest, e)
			}
		}
		filters(t, "some", p, z, want)
		filters(t, "the others", api.Pred{Kind: api.Not, L: []api.Pred{p}}, z, rest)
		filters(t, "once more", p, want, want)
	}
}

func TestFilterOfADeepPredicate(t *testing.T) {
	p := cmp(0, api.Eq, value.Of(1))
	for range 1 << 15 {
		p = api.Pred{Kind: api.Not, L: []api.Pred{p}}
	}
	filters(t, "deep", p, zs(one(1, 2), one(2, 3)), zs(one(1, 2)))
}

func TestProject(t *testing.T) {
	a, b := value.Str("a"), value.Is(true)
	z := zs(many(1, value.Of(1), a, b), many(-2, value.Of(2), a, b), many(3, value.Of(3), a, api.Value{}))
	for _, x := range []struct {
		name string
		cols []int
		want []api.Entry
	}{
		{"no columns", nil, zs(many(2))},
		{"an empty list of columns", []int{}, zs(many(2))},
		{"all in order", []int{0, 1, 2}, z},
		{"the first", []int{0}, zs(one(1, 1), one(2, -2), one(3, 3))},
		{"one of which all are alike", []int{1}, zs(many(2, a))},
		{"the last", []int{2}, zs(many(3, api.Value{}), many(-1, b))},
		{"the first ones", []int{0, 1}, zs(many(1, value.Of(1), a), many(-2, value.Of(2), a), many(3, value.Of(3), a))},
		{"out of order", []int{2, 1}, zs(many(3, api.Value{}, a), many(-1, b, a))},
		{"all out of order", []int{2, 0, 1}, zs(many(3, api.Value{}, value.Of(3), a), many(1, b, value.Of(1), a), many(-2, b, value.Of(2), a))},
		{"one twice", []int{2, 2}, zs(many(3, api.Value{}, api.Value{}), many(-1, b, b))},
		{"one four times", []int{1, 1, 1, 1}, zs(many(2, a, a, a, a))},
		{"one again behind another", []int{2, 1, 2}, zs(many(3, api.Value{}, a, api.Value{}), many(-1, b, a, b))},
		{"two again and again", []int{1, 2, 2, 1, 2}, zs(many(3, a, api.Value{}, api.Value{}, a, api.Value{}), many(-1, a, b, b, a, b))},
		{"more than there are", []int{0, 0, 1, 2, 0}, zs(many(1, value.Of(1), value.Of(1), a, b, value.Of(1)), many(-2, value.Of(2), value.Of(2), a, b, value.Of(2)), many(3, value.Of(3), value.Of(3), a, api.Value{}, value.Of(3)))},
	} {
		projects(t, x.name, x.cols, z, x.want, nil)
	}
}

func TestProjectBringsRowsIntoOrder(t *testing.T) {
	z := zs(two(1, 9, 1), two(2, 5, 2), two(3, 7, 3), two(4, 5, 4))
	projects(t, "the second", []int{1}, z, zs(one(5, 6), one(7, 3), one(9, 1)), nil)
	projects(t, "turned round", []int{1, 0}, z, zs(two(5, 2, 2), two(5, 4, 4), two(7, 3, 3), two(9, 1, 1)), nil)
	projects(t, "a column that is 10, one that is 9", []int{1}, zs(two(1, 10, 1), two(2, 9, 1)), zs(one(9, 1), one(10, 1)), nil)
	projects(t, "Kinds", []int{1}, zs(
		many(1, value.Of(1), value.Is(true)), many(2, value.Of(2), value.Str("")), many(3, value.Of(3), value.Of(most)), many(4, value.Of(4), api.Value{}),
	), zs(many(4, api.Value{}), one(most, 3), many(2, value.Str("")), many(1, value.Is(true))), nil)
}

func TestProjectOfNothing(t *testing.T) {
	for _, cols := range [][]int{nil, {}, {0}, {1, 0, 1}, {-1}, {math.MaxInt}, {math.MinInt, 0}} {
		projects(t, "nothing", cols, nil, nil, nil)
		projects(t, "the empty list", cols, zs(), nil, nil)
	}
}

func TestProjectOfTheEmptyRow(t *testing.T) {
	projects(t, "no columns", nil, zs(many(-3)), zs(many(-3)), nil)
	projects(t, "no columns of an empty one", nil, zs(api.Entry{Row: api.Row{}, Weight: 4}), zs(many(4)), nil)
	projects(t, "the first", []int{0}, zs(many(1)), nil, api.ErrArity)
	projects(t, "no columns of rows of several lengths", nil, zs(many(1), one(1, 2), two(1, 1, 3)), zs(many(6)), nil)
}

func TestProjectOfAColumnThatIsNone(t *testing.T) {
	z := zs(two(1, 2, 1), two(2, 2, 1), two(3, 2, 1))
	for _, cols := range [][]int{{2}, {-1}, {math.MaxInt}, {math.MinInt}, {0, 2}, {2, 0}, {0, -1, 1}, {0, 1, 0, 1, 2}, {2, 2}, {0, 0, -1}, {1, 1, 7, 7}} {
		projects(t, "none", cols, z, nil, api.ErrArity)
		projects(t, "none of one row", cols, z[:1], nil, api.ErrArity)
	}
}

func TestProjectOfOneRowThatDoesNotHaveAColumn(t *testing.T) {
	for short := range 3 {
		z := zs(two(1, 2, 1), two(2, 2, 1), two(3, 2, 1))
		z[short].Row = z[short].Row[:1]
		projects(t, "one is too short", []int{1}, z, nil, api.ErrArity)
		projects(t, "one is too short for a column that is named last", []int{0, 0, 1}, z, nil, api.ErrArity)
		projects(t, "all are long enough", []int{0}, z, zs(one(1, 1), one(2, 1), one(3, 1)), nil)
	}
	longer := zs(one(1, 1), two(2, 5, 1), many(1, ints(3, 5, 7)...))
	projects(t, "only the last has it", []int{2}, longer, nil, api.ErrArity)
	projects(t, "the others have more", []int{0}, longer, zs(one(1, 1), one(2, 1), one(3, 1)), nil)
}

func TestProjectTellsArityAheadOfOver(t *testing.T) {
	over := zs(two(1, 5, most), two(2, 5, most))
	projects(t, "beyond", []int{1}, over, nil, api.ErrOver)
	projects(t, "beyond, and a column that none has", []int{1, 2}, over, nil, api.ErrArity)
	projects(t, "beyond, and a row behind that doesn't have it", []int{1}, append(slices.Clone(over), one(3, 1)), nil, api.ErrArity)
	projects(t, "beyond, and a row ahead that doesn't have it", []int{1}, append(zs(one(0, 1)), over...), nil, api.ErrArity)
	projects(t, "beyond, and a row whose weight takes it back doesn't have it", []int{1}, append(slices.Clone(over), one(3, least)), nil, api.ErrArity)
}

func TestProjectPutsWeightsTogether(t *testing.T) {
	for _, x := range []struct {
		name    string
		weights []int64
		want    int64
	}{
		{"some", []int64{1, 2, 3}, 6},
		{"to 0", []int64{4, -4}, 0},
		{"to 0, of three", []int64{-5, 2, 3}, 0},
		{"to 0, of the bounds", []int64{most, 1, least}, 0},
		{"the most", []int64{most - 1, 1}, most},
		{"the least", []int64{least + 1, -1}, least},
		{"beyond on the way, back to the most", []int64{most, 7, -7}, most},
		{"beyond on the way, back to the least", []int64{least, -7, 7}, least},
		{"far beyond on the way", []int64{most, most, most, least + 1, least + 1}, most},
		{"far below on the way", []int64{least, least, least, most, most, 2}, least},
		{"far beyond on the way, to 0", []int64{most, most, 2, least, least}, 0},
	} {
		var z []api.Entry
		for i, w := range x.weights {
			z = append(z, two(int64(i), 5, w))
		}
		want := zs(one(5, x.want))
		if x.want == 0 {
			want = nil
		}
		projects(t, x.name, []int{1}, z, want, nil)
		z = append(z, two(97, 4, 1), two(98, 6, most), two(99, 7, least))
		want = append(append(zs(one(4, 1)), want...), one(6, most), one(7, least))
		projects(t, x.name+", beside others", []int{1}, z, want, nil)
	}
}

func TestProjectTellsOver(t *testing.T) {
	for _, weights := range [][]int64{
		{most, 1}, {1, most}, {least, -1}, {-1, least}, {most, most}, {least, least}, {most, most, 2}, {least, least, least, least}, {most, 7, -6}, {most, least, most, 2, most},
	} {
		for _, other := range []int64{4, 6} {
			var z []api.Entry
			for i, w := range weights {
				z = append(z, two(int64(i), 5, w))
			}
			projects(t, "beyond", []int{1}, z, nil, api.ErrOver)
			projects(t, "beyond, one twice", []int{1, 1}, z, nil, api.ErrOver)
			projects(t, "beyond, no columns", nil, z, nil, api.ErrOver)
			projects(t, "beyond beside another", []int{1}, append(z, two(99, other, 1)), nil, api.ErrOver)
			if _, err := Project([]int{0, 1}, z); err != nil {
				t.Errorf("weights of rows that stay apart are put together: %v", err)
			}
		}
	}
}

// columns are lists of columns of three: none, one, several, out of order, all, some again.
func columns() [][]int {
	l := [][]int{nil}
	for from := 0; from < len(l); from++ {
		if len(l[from]) < 4 {
			for c := range 3 {
				l = append(l, append(slices.Clone(l[from]), c))
			}
		}
	}
	return l
}

// numbers is a row of 0, 1, 2, .. as the digits of a number, the first one first.
func numbers(r api.Row) (n int) {
	for _, v := range r {
		n = 10*n + int(v.N) + 1
	}
	return n
}

func TestProjectOfAnyZset(t *testing.T) {
	r := rand.New(rand.NewSource(2))
	weights := []int64{1, -1, 2, most, least, most / 2, least / 2, -3}
	for range 300 {
		var z []api.Entry
		for n := range 27 {
			if r.Intn(3) == 0 {
				z = append(z, many(weights[r.Intn(len(weights))], ints(int64(n/9), int64(n/3%3), int64(n%3))...))
			}
		}
		for _, cols := range columns() {
			want, wantErr := projected(cols, z)
			projects(t, "any", cols, z, want, wantErr)
		}
	}
}

// projected is Project by numbers without bounds and rows as digits; each of cols is one of each row's.
func projected(cols []int, z []api.Entry) ([]api.Entry, error) {
	sums, rows := map[int]*big.Int{}, map[int]api.Row{}
	var keys []int
	for _, e := range z {
		var r api.Row
		for _, c := range cols {
			r = append(r, e.Row[c])
		}
		key := numbers(r)
		if sums[key] == nil {
			sums[key], rows[key], keys = new(big.Int), r, append(keys, key)
		}
		sums[key].Add(sums[key], big.NewInt(e.Weight))
	}
	slices.Sort(keys)
	var l []api.Entry
	for _, key := range keys {
		if !sums[key].IsInt64() {
			return nil, api.ErrOver
		}
		if sums[key].Sign() != 0 {
			l = append(l, many(sums[key].Int64(), rows[key]...))
		}
	}
	return l, nil
}

func TestProjectOfRandomColumnsOfSeveralKinds(t *testing.T) {
	z := kinds()
	r := rand.New(rand.NewSource(3))
	for range 2000 {
		var cols []int
		for range r.Intn(9) {
			cols = append(cols, r.Intn(40)%4)
		}
		var l []api.Entry
		for _, e := range z {
			picked, ok := row.Pick(e.Row, cols...)
			if !ok {
				l = nil
				break
			}
			l = append(l, api.Entry{Row: picked, Weight: e.Weight})
		}
		if slices.Contains(cols, 3) {
			projects(t, "a column that is none", cols, z, nil, api.ErrArity)
			continue
		}
		want, err := zset.Make(l...)
		projects(t, "as Made of what is Picked", cols, z, want, err)
	}
}

func TestProjectOfManyRowsThatComeToBeAWideOne(t *testing.T) {
	const size = 1 << 12
	var z []api.Entry
	for n := range int64(size) {
		z = append(z, two(n, 5, n))
	}
	cols := slices.Repeat([]int{1}, size)
	var ahead, behind runtime.MemStats
	runtime.ReadMemStats(&ahead)
	got, err := Project(cols, z)
	runtime.ReadMemStats(&behind)
	if err != nil || !alike(got, zs(many(size*(size-1)/2, slices.Repeat(ints(5), size)...))) {
		t.Errorf("%d entries, %v", len(got), err)
	}
	if taken := behind.TotalAlloc - ahead.TotalAlloc; taken > 1<<25 {
		t.Errorf("%d bytes were taken on the way", taken)
	}
}

func TestUnion(t *testing.T) {
	a := zs(two(1, 5, 2), two(2, 5, -1), two(3, 6, 4))
	b := zs(two(2, 5, 1), two(3, 6, 1), two(4, 4, 1))
	ab := zs(two(1, 5, 2), two(3, 6, 5), two(4, 4, 1))
	opposite := zs(two(1, 5, -2), two(2, 5, 1), two(3, 6, -4))
	for _, x := range []struct {
		name       string
		a, b, want []api.Entry
	}{
		{"nothing and nothing", nil, zs(), nil},
		{"something and nothing", a, nil, a},
		{"something and the empty list", a, zs(), a},
		{"some of both", a, b, ab},
		{"itself", a, a, zs(two(1, 5, 4), two(2, 5, -2), two(3, 6, 8))},
		{"its opposite", a, opposite, nil},
		{"the opposite of some", a, opposite[1:], a[:1]},
		{"all ahead", zs(one(1, 1)), zs(one(2, 1), one(3, -1)), zs(one(1, 1), one(2, 1), one(3, -1))},
		{"by turns", zs(one(1, 1), one(3, 1)), zs(one(2, 1), one(4, 1)), zs(one(1, 1), one(2, 1), one(3, 1), one(4, 1))},
		{"rows of several lengths", zs(many(1), two(1, 1, 1)), zs(one(1, 1)), zs(many(1), one(1, 1), two(1, 1, 1))},
		{"several Kinds", kinds()[3:4], append(kinds()[:3:3], kinds()[4:]...), kinds()},
		{"the bounds, each of a row of its own", zs(one(1, most), one(4, least)), zs(one(2, most), one(3, least)), zs(one(1, most), one(2, most), one(3, least), one(4, least))},
	} {
		unites(t, x.name, x.a, x.b, x.want, nil)
		unites(t, x.name+", the other way round", x.b, x.a, x.want, nil)
	}
}

// edges are weights about the bounds and about 0, and halves of the bounds.
func edges() []int64 {
	return []int64{least, least + 1, least / 2, least/2 - 1, -2, -1, 1, 2, most / 2, most/2 + 1, most - 1, most}
}

func TestUnionAtTheBounds(t *testing.T) {
	for _, v := range edges() {
		for _, w := range edges() {
			sum := new(big.Int).Add(big.NewInt(v), big.NewInt(w))
			ahead, behind := one(4, 1), one(6, -1)
			var want []api.Entry
			var wantErr error
			if !sum.IsInt64() {
				wantErr = api.ErrOver
			} else if sum.Sign() == 0 {
				want = zs(ahead, behind)
			} else {
				want = zs(ahead, one(5, sum.Int64()), behind)
			}
			unites(t, "two weights", zs(ahead, one(5, v)), zs(one(5, w), behind), want, wantErr)
			unites(t, "two weights, the others on the other side", zs(one(5, v), behind), zs(ahead, one(5, w)), want, wantErr)
		}
	}
}

// call is one of the package's calls, of one or of two z-sets.
type call func(a, b []api.Entry) ([]api.Entry, error)

// calls are all calls, each so that what it answers has each of a's rows of two columns.
func calls() map[string]call {
	project := func(cols ...int) call {
		return func(a, b []api.Entry) ([]api.Entry, error) { return Project(cols, a) }
	}
	return map[string]call{
		"Filter":                      func(a, b []api.Entry) ([]api.Entry, error) { return Filter(api.Pred{Kind: api.And}, a), nil },
		"Project, all":                project(0, 1),
		"Project, out of order":       project(1, 0),
		"Project, one":                project(0),
		"Project, one several times":  project(0, 0, 0),
		"Project, more than they are": project(1, 0, 1, 0, 0),
		"Union":                       Union,
		"Union, the other way round":  func(a, b []api.Entry) ([]api.Entry, error) { return Union(b, a) },
	}
}

func TestAnswersAreNewMemory(t *testing.T) {
	for name, call := range calls() {
		for _, b := range [][]api.Entry{nil, zs(two(2, 7, 5), two(9, 9, 5))} {
			a := zs(two(1, 7, 1), two(2, 7, 1), two(3, 7, -1))
			wasA, wasB := deepCopy(a), deepCopy(b)
			first, err := call(a, b)
			second, _ := call(a, b)
			if err != nil || len(first) < len(a) {
				t.Fatalf("%s: %v, %v", name, first, err)
			}
			was := deepCopy(second)
			writeAll(t, name, first)
			if !alike(a, wasA) || !alike(b, wasB) {
				t.Errorf("%s: what was handed in shows what was written into the answer", name)
			}
			if !alike(second, was) {
				t.Errorf("%s: an answer shows what was written into another", name)
			}
			writeAll(t, name, a)
			writeAll(t, name, b)
			if !alike(second, was) {
				t.Errorf("%s: the answer shows what was written into what was handed in", name)
			}
		}
	}
}

// writeAll writes into all of z, and behind what it has, and holds z's rows against each other on the way.
func writeAll(t *testing.T, name string, z []api.Entry) {
	for i := range z {
		was := deepCopy(z)
		_ = append(z[i].Row, value.Of(77))
		if !alike(z, was) {
			t.Errorf("%s: a row shows what was appended to another", name)
		}
		for k := range z[i].Row {
			z[i].Row[k] = value.Of(77)
		}
		if was[i].Row = z[i].Row; !alike(z, was) {
			t.Errorf("%s: a row shows what was written into another", name)
		}
		z[i].Weight = 77
	}
	_ = append(z, one(77, 77))
	_ = append(z[:0], one(77, 77))
}

func TestWhatIsHandedInIsNeitherChangedNorKept(t *testing.T) {
	cols := []int{1, 1, 0}
	z := zs(two(1, 9, 1), two(2, 5, 2), two(3, 9, 3), two(4, 5, -2))
	was := deepCopy(z)
	got, err := Project(cols, z)
	gotWas := deepCopy(got)
	if err != nil || !slices.Equal(cols, []int{1, 1, 0}) || !alike(z, was) {
		t.Errorf("Project: %v, %v, %v", err, cols, z)
	}
	cols[0], cols[2] = 0, 7
	if !alike(got, gotWas) {
		t.Errorf("Project's answer shows what was written into cols: %v", got)
	}

	either := func() api.Pred {
		part := cmp(1, api.Eq, value.Of(5))
		return api.Pred{Kind: api.Or, L: []api.Pred{{Kind: api.Not, L: []api.Pred{part}}, part}}
	}
	p := either()
	chosen := Filter(p, z)
	if !reflect.DeepEqual(p, either()) || !alike(z, was) {
		t.Errorf("Filter: %v, %v", p, z)
	}
	p.L[0] = api.Pred{}
	if !alike(chosen, was) {
		t.Errorf("Filter's answer shows what was written into p: %v", chosen)
	}

	for _, wrong := range [][]int{{0, 2}, {2}, {-1}} {
		if _, err := Project(wrong, z); err != api.ErrArity || !alike(z, was) {
			t.Errorf("Project(%v): %v, %v", wrong, err, z)
		}
	}
}

func TestWhatLiesBehindTheLength(t *testing.T) {
	for name, call := range calls() {
		room := zs(two(1, 7, 1), two(2, 7, 1), two(3, 7, -1), two(4, 7, 1))
		wide := api.Row(append(ints(3, 7), ints(8, 9)...))
		room[2].Row = wide[:2]
		was, wideWas := deepCopy(room), slices.Clone(wide)
		got, err := call(room[:3], room[:1])
		want, _ := call(deepCopy(room)[:3], deepCopy(room)[:1])
		if err != nil || !alike(got, want) {
			t.Errorf("%s: what lies behind the length is read: %v, %v", name, got, want)
		}
		if !alike(room, was) || !slices.Equal(wide, wideWas) {
			t.Errorf("%s: what lies behind the length is written: %v, %v", name, room, wide)
		}
		writeAll(t, name, got)
		if !alike(room, was) || !slices.Equal(wide, wideWas) {
			t.Errorf("%s: what lies behind the length is handed out: %v, %v", name, room, wide)
		}
	}
	wide := ints(3, 7, 8)
	projects(t, "a column behind the row's length", []int{2}, zs(many(1, wide[:2]...)), nil, api.ErrArity)
	filters(t, "a column behind the row's length", api.Pred{Kind: api.IsNull, Col: 2}, zs(many(1, wide[:2]...)), zs(two(3, 7, 1)))
	cols := []int{0, 1, 5}
	projects(t, "a column behind the columns' length", cols[:2], zs(two(3, 7, 1)), zs(two(3, 7, 1)), nil)
	if !slices.Equal(cols, []int{0, 1, 5}) {
		t.Errorf("what lies behind the columns' length is written: %v", cols)
	}
}

func TestTextsAsTheyAre(t *testing.T) {
	long := value.Str(strings.Repeat("z", api.MaxText))
	z := zs(many(1, value.Of(1), value.Str("it's")), many(2, value.Of(2), long), many(3, value.Of(3), value.Str("\xff")), many(4, value.Of(4), long))
	projects(t, "texts", []int{1}, z, zs(many(1, value.Str("it's")), many(6, long), many(3, value.Str("\xff"))), nil)
	filters(t, "texts", cmp(1, api.Eq, long), z, at(z, 1, 3))
	unites(t, "texts", z[:2], z[2:], z, nil)
}
