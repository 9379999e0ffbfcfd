package merge

import (
	"math"
	"math/big"
	"slices"
	"testing"

	"belvedere/api"
	"belvedere/row"
	"belvedere/value"
)

const (
	most  = math.MaxInt64
	least = math.MinInt64
)

// ints is a row of Ints.
func ints(l ...int64) api.Row {
	var r api.Row
	for _, n := range l {
		r = append(r, value.Of(n))
	}
	return r
}

// of is the row (n), w times.
func of(n, w int64) api.Entry { return api.Entry{Row: ints(n), Weight: w} }

// zs is a list of entries.
func zs(l ...api.Entry) []api.Entry { return l }

// lists are several of them.
func lists(l ...[]api.Entry) [][]api.Entry { return l }

// inOrder are rows in row.Compare's order: of no values, of several Kinds, one the beginning of another.
func inOrder() []api.Row {
	return []api.Row{
		nil,
		{{}},
		{{}, {}},
		ints(least),
		ints(1),
		{value.Of(1), {}},
		ints(1, 10),
		{value.Of(1), value.Str("a")},
		ints(2),
		ints(10),
		{value.Str("")},
		{value.Str("a"), value.Of(9)},
		{value.Str("aa")},
		{value.Is(false)},
		{value.Is(true), value.Of(0)},
	}
}

// alike holds entries against each other value by value.
func alike(a, b []api.Entry) bool {
	return slices.EqualFunc(a, b, func(x, y api.Entry) bool {
		return x.Weight == y.Weight && slices.Equal(x.Row, y.Row)
	})
}

// deepCopy is what l was, whatever a call does to it.
func deepCopy(l []api.Entry) []api.Entry {
	var copied []api.Entry
	for _, e := range l {
		copied = append(copied, api.Entry{Row: slices.Clone(e.Row), Weight: e.Weight})
	}
	return copied
}

// deepCopies is what each of l was.
func deepCopies(l [][]api.Entry) [][]api.Entry {
	var copied [][]api.Entry
	for _, z := range l {
		copied = append(copied, deepCopy(z))
	}
	return copied
}

// expect holds a list against what it should be.
func expect(t *testing.T, name string, got, want []api.Entry) {
	t.Helper()
	if !alike(got, want) {
		t.Errorf("%s: %v, want %v", name, got, want)
	}
}

// expectSum holds the answer of All or Two against what it should be.
func expectSum(t *testing.T, name string, got []api.Entry, err error, want []api.Entry, wantErr error) {
	t.Helper()
	if err != wantErr || !alike(got, want) {
		t.Errorf("%s: %v, %v; want %v, %v", name, got, err, want, wantErr)
	}
}

// rest is all that a cursor still has. Its end must stay its end, with nothing beside the false.
func rest(t *testing.T, c *Cursor) []api.Entry {
	t.Helper()
	var l []api.Entry
	for {
		e, ok := c.Next()
		if !ok {
			expectEnd(t, "the end", c)
			return l
		}
		l = append(l, e)
	}
}

// expectNext holds the next entry against what it should be.
func expectNext(t *testing.T, name string, c *Cursor, want api.Entry) {
	t.Helper()
	if e, ok := c.Next(); !ok || !alike(zs(e), zs(want)) {
		t.Errorf("%s: %v, %v; want %v", name, e, ok, want)
	}
}

// expectEnd asks twice: an end that was told stays.
func expectEnd(t *testing.T, name string, c *Cursor) {
	t.Helper()
	for range 2 {
		if e, ok := c.Next(); ok || len(e.Row) != 0 || e.Weight != 0 {
			t.Errorf("%s: %v, %v", name, e, ok)
		}
	}
}

// sumOf is the z-sets' sum, row by row in numbers without bounds, without the rows whose weights come to 0; passed are those whose weight is beyond an int64, which the sum is without, too. All rows are of order.
func sumOf(order []api.Row, l ...[]api.Entry) (sum []api.Entry, passed int) {
	for _, r := range order {
		weight := new(big.Int)
		for _, z := range l {
			for _, e := range z {
				if slices.Equal(e.Row, r) {
					weight.Add(weight, big.NewInt(e.Weight))
				}
			}
		}
		if !weight.IsInt64() {
			passed++
		} else if weight.Sign() != 0 {
			sum = append(sum, api.Entry{Row: r, Weight: weight.Int64()})
		}
	}
	return sum, passed
}

// expectAll holds All, and a cursor that goes over all, against numbers without bounds.
func expectAll(t *testing.T, name string, order []api.Row, l ...[]api.Entry) {
	t.Helper()
	sum, passed := sumOf(order, l...)
	expect(t, name+": a cursor", rest(t, New(l...)), sum)
	got, err := All(l...)
	if passed > 0 {
		expectSum(t, name+": All", got, err, nil, api.ErrOver)
	} else {
		expectSum(t, name+": All", got, err, sum, nil)
	}
	if len(l) == 2 {
		two, twoErr := Two(l[0], l[1])
		expectSum(t, name+": Two", two, twoErr, got, err)
	}
}

// sums are z-sets and what they are together.
func sums() []struct {
	name string
	l    [][]api.Entry
	want []api.Entry
} {
	a, b, c := zs(of(1, 2), of(3, 1)), zs(of(2, 5), of(3, -1)), zs(of(0, 1), of(1, -1), of(9, 4))
	return []struct {
		name string
		l    [][]api.Entry
		want []api.Entry
	}{
		{"no list", nil, nil},
		{"one empty list", lists(nil), nil},
		{"empty lists", lists(nil, zs(), nil), nil},
		{"one list", lists(a), a},
		{"one list among empty ones", lists(nil, a, zs()), a},
		{"two lists", lists(a, b), zs(of(1, 2), of(2, 5))},
		{"two lists the other way round", lists(b, a), zs(of(1, 2), of(2, 5))},
		{"three lists and an empty one", lists(a, b, c, nil), zs(of(0, 1), of(1, 1), of(2, 5), of(9, 4))},
		{"a list twice", lists(a, a), zs(of(1, 4), of(3, 2))},
		{"all of one ahead of the other", lists(zs(of(3, 1), of(4, 1)), zs(of(1, 1), of(2, 1))), zs(of(1, 1), of(2, 1), of(3, 1), of(4, 1))},
		{"each between the other's", lists(zs(of(1, 1), of(3, 1)), zs(of(2, 1), of(4, 1))), zs(of(1, 1), of(2, 1), of(3, 1), of(4, 1))},
		{"nothing is left", lists(zs(of(1, 7), of(2, -1)), zs(of(1, -7), of(2, 1))), nil},
		{"nothing is left of three", lists(zs(of(1, 7)), zs(of(1, -4)), zs(of(1, -3))), nil},
		{"nothing is left of the first row", lists(zs(of(1, 1), of(2, 1)), zs(of(1, -1))), zs(of(2, 1))},
		{"nothing is left of the last row", lists(zs(of(1, 1), of(2, 1)), zs(of(2, -1))), zs(of(1, 1))},
		{"nothing is left of rows side by side", lists(zs(of(1, 1), of(2, 1), of(3, 1), of(4, 1)), zs(of(2, -1), of(3, -1))), zs(of(1, 1), of(4, 1))},
		{"the bounds, each of a row of its own", lists(zs(of(1, most), of(2, least)), zs(of(3, most), of(4, least))), zs(of(1, most), of(2, least), of(3, most), of(4, least))},
		{"just at a bound", lists(zs(of(1, most-1), of(2, least+1)), zs(of(1, 1), of(2, -1))), zs(of(1, most), of(2, least))},
		{"from bound to bound", lists(zs(of(1, most)), zs(of(1, least))), zs(of(1, -1))},
		{"beyond on the way", lists(zs(of(1, most)), zs(of(1, 5)), zs(of(1, -5))), zs(of(1, most))},
		{"beyond below on the way", lists(zs(of(1, least)), zs(of(1, -5)), zs(of(1, 5))), zs(of(1, least))},
		{"far beyond on the way, then nothing", lists(zs(of(1, most)), zs(of(1, most)), zs(of(1, least)), zs(of(1, least)), zs(of(1, 2))), nil},
		{"a row that begins another", lists(zs(of(1, 1)), zs(api.Entry{Row: ints(1, 1), Weight: 1}), zs(of(1, 1))), zs(of(1, 2), api.Entry{Row: ints(1, 1), Weight: 1})},
		{"the empty row", lists(zs(api.Entry{Weight: 1}), zs(api.Entry{Row: api.Row{}, Weight: 1}, of(1, 1))), zs(api.Entry{Weight: 2}, of(1, 1))},
		{"the empty row alone", lists(zs(api.Entry{Weight: 1})), zs(api.Entry{Weight: 1})},
	}
}

func TestAll(t *testing.T) {
	for _, x := range sums() {
		got, err := All(x.l...)
		expectSum(t, x.name, got, err, x.want, nil)
	}
}

func TestTwo(t *testing.T) {
	for _, x := range sums() {
		if len(x.l) == 2 {
			got, err := Two(x.l[0], x.l[1])
			expectSum(t, x.name, got, err, x.want, nil)
			got, err = Two(x.l[1], x.l[0])
			expectSum(t, x.name+", the other way round", got, err, x.want, nil)
		}
	}
	a := zs(of(1, 2), of(3, 1))
	got, err := Two(a, nil)
	expectSum(t, "nothing behind", got, err, a, nil)
	got, err = Two(nil, a)
	expectSum(t, "nothing ahead", got, err, a, nil)
	got, err = Two(nil, nil)
	expectSum(t, "nothing", got, err, nil, nil)
}

func TestNext(t *testing.T) {
	for _, x := range sums() {
		expect(t, x.name, rest(t, New(x.l...)), x.want)
	}
}

// beyond are z-sets of which a row's weight is beyond an int64 in the end, and what is left without it.
func beyond() []struct {
	name string
	l    [][]api.Entry
	left []api.Entry
} {
	return []struct {
		name string
		l    [][]api.Entry
		left []api.Entry
	}{
		{"one above", lists(zs(of(1, most)), zs(of(1, 1))), nil},
		{"one below", lists(zs(of(1, least)), zs(of(1, -1))), nil},
		{"far above", lists(zs(of(1, most)), zs(of(1, most))), nil},
		{"2^64 is not 0", lists(zs(of(1, most)), zs(of(1, most)), zs(of(1, 2))), nil},
		{"-2^64 is not 0", lists(zs(of(1, least)), zs(of(1, least))), nil},
		{"2^64 + 1 is not 1", lists(zs(of(1, most)), zs(of(1, most)), zs(of(1, 3))), nil},
		{"the first row", lists(zs(of(1, most), of(2, 1)), zs(of(1, 1)), zs(of(4, 7))), zs(of(2, 1), of(4, 7))},
		{"a row in the middle", lists(zs(of(1, 1), of(2, most), of(3, 1)), zs(of(2, 1))), zs(of(1, 1), of(3, 1))},
		{"the last row", lists(zs(of(1, 1), of(2, 1), of(3, least)), zs(of(3, -1))), zs(of(1, 1), of(2, 1))},
		{"two rows side by side", lists(zs(of(1, most), of(2, least), of(3, 1)), zs(of(1, most), of(2, least))), zs(of(3, 1))},
		{"beside a row that comes to 0", lists(zs(of(1, 1), of(2, most), of(3, 1), of(4, 1)), zs(of(1, -1), of(2, 1), of(3, -1))), zs(of(4, 1))},
		{"the empty row", lists(zs(api.Entry{Weight: most}, of(1, 1)), zs(api.Entry{Weight: 1})), zs(of(1, 1))},
	}
}

func TestAllTellsOver(t *testing.T) {
	for _, x := range beyond() {
		got, err := All(x.l...)
		expectSum(t, x.name, got, err, nil, api.ErrOver)
	}
}

func TestTwoTellsOver(t *testing.T) {
	for _, x := range beyond() {
		if len(x.l) == 2 {
			got, err := Two(x.l[0], x.l[1])
			expectSum(t, x.name, got, err, nil, api.ErrOver)
			got, err = Two(x.l[1], x.l[0])
			expectSum(t, x.name+", the other way round", got, err, nil, api.ErrOver)
		}
	}
}

func TestNextPassesOver(t *testing.T) {
	for _, x := range beyond() {
		expect(t, x.name, rest(t, New(x.l...)), x.left)
	}
}

func TestSumsAtTheBounds(t *testing.T) {
	edges := []int64{least, least + 1, least / 2, -2, -1, 1, 2, most/2 + 1, most - 1, most}
	order := []api.Row{ints(1), ints(2)}
	for _, a := range edges {
		for _, b := range edges {
			expectAll(t, "two weights", order, zs(of(1, a), of(2, 1)), zs(of(1, b)))
			for _, c := range edges {
				expectAll(t, "three weights", order, zs(of(1, a)), zs(of(1, b), of(2, 1)), zs(of(1, c)))
			}
		}
	}
}

func TestSumsOfManyListsAtTheBounds(t *testing.T) {
	for _, bound := range []int64{most, least} {
		var l [][]api.Entry
		for range 1000 {
			l = append(l, zs(of(1, bound), of(2, 1)))
		}
		got, err := All(l...)
		expectSum(t, "far beyond", got, err, nil, api.ErrOver)
		expect(t, "far beyond", rest(t, New(l...)), zs(of(2, 1000)))
		for range 999 {
			l = append(l, zs(of(1, -(bound/2))), zs(of(1, -(bound-bound/2))))
		}
		got, err = All(l...)
		expectSum(t, "far beyond and back", got, err, zs(of(1, bound), of(2, 1000)), nil)
		expect(t, "far beyond and back", rest(t, New(l...)), zs(of(1, bound), of(2, 1000)))
	}
}

// allZsets are the z-sets of the rows (0) to (n-1) with weights from -1 to 1.
func allZsets(n int64) [][]api.Entry {
	l := lists(nil)
	for i := range n {
		for _, z := range slices.Clone(l) {
			l = append(l, append(slices.Clone(z), of(i, 1)), append(slices.Clone(z), of(i, -1)))
		}
	}
	return l
}

func TestSumsOfAllSmallZsets(t *testing.T) {
	order := []api.Row{ints(0), ints(1), ints(2)}
	for _, a := range allZsets(3) {
		for _, b := range allZsets(3) {
			expectAll(t, "two", order, a, b)
			for _, c := range allZsets(2) {
				expectAll(t, "three", order, a, b, c)
			}
		}
	}
}

// mixed are as many z-sets of inOrder's rows; which rows, and their weights, go by a rule that mixes them.
func mixed(many int, seed uint32) [][]api.Entry {
	l := make([][]api.Entry, many)
	for i := range l {
		for _, r := range inOrder() {
			seed = seed*1664525 + 1013904223
			if w := int64(seed>>28) - 8; w != 0 && seed>>27&1 == 0 {
				l[i] = append(l[i], api.Entry{Row: r, Weight: w})
			}
		}
	}
	return l
}

func TestSumsOfManyKindsOfRows(t *testing.T) {
	for many := range 20 {
		for seed := range uint32(20) {
			expectAll(t, "mixed", inOrder(), mixed(many, seed)...)
		}
	}
}

func TestTheOrderOfTheListsIsNotSeen(t *testing.T) {
	l := mixed(7, 1)
	want, _ := All(l...)
	for range l {
		l = append(l[1:], l[0])
		got, err := All(l...)
		expectSum(t, "All", got, err, want, nil)
		expect(t, "a cursor", rest(t, New(l...)), want)
	}
}

// odds are two z-sets; together they are (1) 2 times, (3) -3, (5) 4, (7) 5; of (4) and (6) nothing comes out.
func odds() [][]api.Entry {
	return lists(
		zs(of(1, 2), of(3, -1), of(4, 1), of(6, most), of(7, 5)),
		zs(of(3, -2), of(4, -1), of(5, 4), of(6, 1)),
	)
}

func TestSeek(t *testing.T) {
	all := zs(of(1, 2), of(3, -3), of(5, 4), of(7, 5))
	for _, x := range []struct {
		name string
		r    api.Row
		want []api.Entry
	}{
		{"the empty row is ahead of all", nil, all},
		{"the empty row, not nil", api.Row{}, all},
		{"a row ahead of all", ints(0), all},
		{"the first row", ints(1), all},
		{"a row that is not there", ints(2), all[1:]},
		{"a row that goes on is behind its beginning", ints(1, 0), all[1:]},
		{"a row that is there, of both", ints(3), all[1:]},
		{"just behind a row of both", ints(3, 0), all[2:]},
		{"a row that comes to 0", ints(4), all[2:]},
		{"a row that is there, of one", ints(5), all[2:]},
		{"a row that is beyond", ints(6), all[3:]},
		{"the last row", ints(7), all[3:]},
		{"just behind the last row", ints(7, 0), nil},
		{"a row behind all", ints(8), nil},
		{"a row of another Kind, ahead", api.Row{{}}, all},
		{"a row of another Kind, behind", api.Row{value.Str("")}, nil},
	} {
		c := New(odds()...)
		c.Seek(x.r)
		expect(t, x.name, rest(t, c), x.want)
		c = New(odds()...)
		c.Seek(x.r)
		c.Seek(row.Copy(x.r))
		expect(t, x.name+", twice", rest(t, c), x.want)
	}
}

func TestSeekGoesNotBack(t *testing.T) {
	c := New(odds()...)
	expectNext(t, "the first", c, of(1, 2))
	c.Seek(ints(1))
	expectNext(t, "behind Seek to the row that was told", c, of(3, -3))
	c.Seek(ints(1))
	expectNext(t, "behind Seek to a row that was passed", c, of(5, 4))
	c.Seek(nil)
	expectNext(t, "behind Seek to the empty row", c, of(7, 5))
	for _, r := range []api.Row{nil, ints(0), ints(1), ints(7), ints(9)} {
		c.Seek(r)
		expectEnd(t, "behind Seek at the end", c)
	}
}

func TestSeekAheadThenBack(t *testing.T) {
	for _, back := range []api.Row{nil, ints(0), ints(1), ints(3), ints(4), ints(5)} {
		c := New(odds()...)
		c.Seek(ints(5))
		c.Seek(back)
		expect(t, "to a row that is there, then back", rest(t, c), zs(of(5, 4), of(7, 5)))
		c = New(odds()...)
		c.Seek(ints(3, 1))
		c.Seek(back)
		expect(t, "to a row that is not there, then back", rest(t, c), zs(of(5, 4), of(7, 5)))
		c = New(odds()...)
		c.Seek(ints(8))
		c.Seek(back)
		expectEnd(t, "behind the last one, then back", c)
	}
}

func TestSeekAgainAndAgain(t *testing.T) {
	c := New(odds()...)
	c.Seek(ints(2))
	expectNext(t, "from (2) on", c, of(3, -3))
	c.Seek(ints(5))
	expectNext(t, "from (5) on", c, of(5, 4))
	c.Seek(ints(6))
	expectNext(t, "from (6) on", c, of(7, 5))
	c.Seek(ints(8))
	expectEnd(t, "from (8) on", c)
}

func TestSeekOfNothing(t *testing.T) {
	for _, l := range [][][]api.Entry{nil, lists(nil), lists(nil, zs()), lists(zs(of(1, 1)), zs(of(1, -1))), lists(zs(of(1, most)), zs(of(1, 1)))} {
		for _, r := range []api.Row{nil, ints(0), ints(1), ints(2)} {
			c := New(l...)
			c.Seek(r)
			expectEnd(t, "of nothing", c)
			c.Seek(r)
			expectEnd(t, "of nothing, again", c)
		}
	}
}

// A Seek behind each number of calls of Next, to each row, held against the sum's rows one by one.
func TestSeekAmongManyKindsOfRows(t *testing.T) {
	for seed := range uint32(10) {
		l := mixed(int(seed), seed)
		sum, _ := sumOf(inOrder(), l...)
		for told := range len(sum) + 1 {
			for _, r := range inOrder() {
				c := New(l...)
				for _, e := range sum[:told] {
					expectNext(t, "ahead of Seek", c, e)
				}
				c.Seek(row.Copy(r))
				want := slices.DeleteFunc(slices.Clone(sum[told:]), func(e api.Entry) bool { return row.Compare(e.Row, r) < 0 })
				expect(t, "behind Seek to "+row.Show(r), rest(t, c), want)
			}
		}
	}
}

func TestSeekToRowsOfNoRightValues(t *testing.T) {
	all := zs(of(1, 2), of(3, -3), of(5, 4), of(7, 5))
	for _, x := range []struct {
		r    api.Row
		want []api.Entry
	}{
		{api.Row{{Kind: -1, N: 9, S: "z"}}, all},
		{api.Row{{Kind: api.Null, S: "x"}}, all},
		{api.Row{{Kind: api.Int, N: 3, S: "x"}}, all[2:]},
		{api.Row{{Kind: 7}}, nil},
	} {
		c := New(odds()...)
		c.Seek(x.r)
		expect(t, "from "+row.Show(x.r)+" on", rest(t, c), x.want)
	}
}

func TestCursorsAreApart(t *testing.T) {
	l := odds()
	one, two, three := New(l...), New(l...), New(l...)
	two.Seek(ints(5))
	rest(t, three)
	expectNext(t, "one", one, of(1, 2))
	expectNext(t, "two", two, of(5, 4))
	expectEnd(t, "three", three)
	expect(t, "one", rest(t, one), zs(of(3, -3), of(5, 4), of(7, 5)))
	expect(t, "two", rest(t, two), zs(of(7, 5)))
}

// calls are those that hand out entries: All, Two, and a cursor that goes over all.
func calls(t *testing.T) map[string]func(a, b []api.Entry) []api.Entry {
	return map[string]func(a, b []api.Entry) []api.Entry{
		"All":      func(a, b []api.Entry) []api.Entry { sum, _ := All(a, b); return sum },
		"Two":      func(a, b []api.Entry) []api.Entry { sum, _ := Two(a, b); return sum },
		"a cursor": func(a, b []api.Entry) []api.Entry { return rest(t, New(a, b)) },
	}
}

func TestAnswersAreNewMemory(t *testing.T) {
	for name, call := range calls(t) {
		for _, b := range lists(nil, zs(of(2, 5), of(9, 5))) {
			a := zs(of(1, 1), of(2, 1), api.Entry{Row: ints(3, 3), Weight: 1})
			wasA, wasB := deepCopy(a), deepCopy(b)
			one, two := call(a, b), call(a, b)
			was := deepCopy(two)
			for i := range one {
				now := deepCopy(one)
				_ = append(one[i].Row, value.Of(77))
				expect(t, name+": appended to a row", one, now)
				one[i].Row[0], now[i].Row[0] = value.Of(77), value.Of(77)
				expect(t, name+": written into a row", one, now)
				one[i].Weight = 77
			}
			_ = append(one, of(77, 77))
			_ = append(one[:1], of(77, 77))
			expect(t, name+": what was handed in first", a, wasA)
			expect(t, name+": what was handed in last", b, wasB)
			expect(t, name+": another answer", two, was)
			a[0].Weight, a[0].Row[0] = 78, value.Of(78)
			expect(t, name+": an answer, when what was handed in changes", two, was)
		}
	}
}

func TestACursorDoesNotKeepWhatWasHandedIn(t *testing.T) {
	l := odds()
	c, d := New(l...), New(l...)
	expectNext(t, "the first", d, of(1, 2))
	for i := range l {
		for k := range l[i] {
			l[i][k].Row[0] = value.Of(77)
			l[i][k] = of(0, 78)
		}
		l[i] = nil
	}
	all := zs(of(1, 2), of(3, -3), of(5, 4), of(7, 5))
	expect(t, "from the beginning", rest(t, c), all)
	expect(t, "under way", rest(t, d), all[1:])

	c, r := New(odds()...), ints(3)
	c.Seek(r)
	r[0] = value.Of(7)
	expect(t, "behind Seek", rest(t, c), all[1:])
}

func TestWritesIntoAnEntryAreNotSeenByTheCursor(t *testing.T) {
	c := New(zs(of(1, 1), of(2, 1), of(3, 1)), zs(of(1, 1), of(3, 1)))
	for _, want := range zs(of(1, 2), of(2, 1), of(3, 2)) {
		e, ok := c.Next()
		if !ok || !alike(zs(e), zs(want)) {
			t.Errorf("%v, %v; want %v", e, ok, want)
		}
		e.Row[0] = value.Of(77)
		_ = append(e.Row, value.Of(77), value.Of(77))
	}
	expectEnd(t, "the end", c)
}

func TestWhatIsHandedInStays(t *testing.T) {
	// Handed in as a list of lists, so that its order, too, could be changed by the call.
	l := lists(zs(of(9, 1)), nil, zs(of(5, 1), of(6, 1)), zs(of(1, 1), of(9, most)), zs(of(3, 1)))
	was := deepCopies(l)
	r := ints(5)
	_, err := All(l...)
	if err != api.ErrOver {
		t.Error(err)
	}
	c := New(l...)
	c.Seek(r)
	rest(t, c)
	for i := range l {
		expect(t, "a list", l[i], was[i])
	}
	if !slices.Equal(r, ints(5)) {
		t.Errorf("the row of Seek: %v", r)
	}
}

func TestWhatLiesBehindTheLength(t *testing.T) {
	back := zs(of(1, 1), of(2, 1), of(3, 1), of(4, 1))
	many := lists(back[:1], back[2:3], back, back)
	long := ints(1, 2, 3)
	for name, call := range calls(t) {
		expect(t, name, call(back[:2], back[2:3]), back[:3])
		expect(t, name+": what was handed in", back, zs(of(1, 1), of(2, 1), of(3, 1), of(4, 1)))
		answer := call(zs(api.Entry{Row: long[:1], Weight: 1}), zs(api.Entry{Row: long[:2], Weight: 1}))
		expect(t, name+": rows", answer, zs(of(1, 1), api.Entry{Row: ints(1, 2), Weight: 1}))
		for _, e := range answer {
			_ = append(e.Row, value.Of(77))
		}
		if !slices.Equal(long, ints(1, 2, 3)) {
			t.Errorf("%s: what lies behind a row's length is written", name)
		}
	}
	got, err := All(many[:2]...)
	expectSum(t, "All of the first lists", got, err, zs(of(1, 1), of(3, 1)), nil)
	expect(t, "a cursor over the first lists", rest(t, New(many[:2]...)), zs(of(1, 1), of(3, 1)))
	c := New(back[:2])
	c.Seek(long[:1])
	expect(t, "Seek asks what lies behind the row's length", rest(t, c), back[:2])
	c.Seek(ints(3))
	expectEnd(t, "Seek to what lies behind the length", c)
	expect(t, "the list that lies behind the length", many[2], zs(of(1, 1), of(2, 1), of(3, 1), of(4, 1)))
}

func TestRowsOfNoRightValues(t *testing.T) {
	order := []api.Row{
		{{Kind: -1, N: 9, S: "z"}},
		{{Kind: api.Null, S: "x"}},
		{{Kind: api.Int, N: 1, S: "a"}},
		{{Kind: api.Int, N: 1, S: "b"}},
		{{Kind: 7}},
	}
	var a, b []api.Entry
	for i, r := range order {
		a = append(a, api.Entry{Row: r, Weight: int64(i + 1)})
		if i%2 == 0 {
			b = append(b, api.Entry{Row: row.Copy(r), Weight: -1})
		}
	}
	expectAll(t, "wrong values", order, a, b)
	expectAll(t, "wrong values", order, a, b, a)
}

// No more is promised of lists that are no z-sets than that a call ends and does not panic.
func TestCallsEndOfNoZsets(t *testing.T) {
	wrong := lists(
		zs(of(7, 1), of(1, 0), of(5, -1), of(3, most), of(1, 1), of(3, most)),
		zs(api.Entry{}, api.Entry{}, api.Entry{}),
		zs(of(1, 1), of(1, -1), api.Entry{Weight: 1}),
		zs(api.Entry{Row: api.Row{{Kind: 7, S: "x"}}, Weight: 1}, api.Entry{Row: api.Row{{Kind: -7, N: 1}}, Weight: least}),
	)
	was := deepCopies(wrong)
	for _, a := range wrong {
		for _, b := range append(wrong, odds()...) {
			Two(a, b)
			All(b, a, b)
			for _, r := range append(inOrder(), ints(3), ints(6), ints(8)) {
				for told := range 4 {
					c := New(a, b)
					for range told {
						c.Next()
					}
					c.Seek(r)
					rest(t, c)
				}
			}
		}
	}
	for i := range wrong {
		expect(t, "what was handed in", wrong[i], was[i])
	}
}

func TestSumOfManyLists(t *testing.T) {
	const many, each = 1 << 14, 1 << 4
	l := make([][]api.Entry, many)
	for i := range l {
		for k := range each { // a row of its own, and one that all have
			l[i] = append(l[i], of(int64(k*(many+1)+many-1-i), 1), of(int64(k*(many+1)+many), 1))
		}
	}
	var want []api.Entry
	for n := range int64(each * (many + 1)) {
		want = append(want, of(n, 1))
		if n%(many+1) == many {
			want[n].Weight = many
		}
	}
	// A call that asked each list for each row would be gone for hours here.
	got, err := All(l...)
	if err != nil || !alike(got, want) {
		t.Error("All", len(got), err)
	}
	if got := rest(t, New(l...)); !alike(got, want) {
		t.Error("a cursor", len(got))
	}
}

func TestSeekOverManyEntries(t *testing.T) {
	const many = 1 << 20
	z := make([]api.Entry, many)
	values := make(api.Row, many)
	for i := range z {
		values[i] = value.Of(int64(2 * i))
		z[i] = api.Entry{Row: values[i : i+1], Weight: 1}
	}
	c := New(z, z[many/2:])
	for i := 0; i < many; i += 3 {
		c.Seek(ints(int64(2*i - 1)))
		want := int64(1)
		if i >= many/2 {
			want = 2
		}
		expectNext(t, "from a row that is not there on", c, of(int64(2*i), want))
	}
	c.Seek(ints(2 * many))
	expectEnd(t, "behind the last one", c)
}
