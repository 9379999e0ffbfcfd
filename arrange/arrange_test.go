package arrange

import (
	"math"
	"math/big"
	"slices"
	"testing"

	"belvedere/api"
	"belvedere/row"
	"belvedere/value"
	"belvedere/zset"
)

const (
	most  = math.MaxInt64
	least = math.MinInt64
)

// ints is the row of these numbers.
func ints(l ...int64) api.Row {
	r := api.Row{}
	for _, n := range l {
		r = append(r, value.Of(n))
	}
	return r
}

// of is the row (a, b), w times.
func of(a, b, w int64) api.Entry { return api.Entry{Row: ints(a, b), Weight: w} }

// zs is a list of entries.
func zs(l ...api.Entry) []api.Entry { return l }

// keys is a list of keys of one column.
func keys(l ...int64) []api.Row {
	var k []api.Row
	for _, n := range l {
		k = append(k, ints(n))
	}
	return k
}

// kinds are rows of three columns, in row.Compare's order: of several Kinds, each column's values more than once.
func kinds() []api.Row {
	return []api.Row{
		{{}, {}, {}},
		{{}, value.Of(2), value.Str("a")},
		{value.Of(least), value.Is(true), value.Of(1)},
		{value.Of(1), {}, value.Is(false)},
		{value.Of(1), value.Of(2), value.Of(1)},
		{value.Of(1), value.Str(""), value.Str("a")},
		{value.Of(2), value.Of(1), {}},
		{value.Of(2), value.Of(1), value.Of(1)},
		{value.Str(""), value.Str("a"), value.Str("")},
		{value.Str("a"), {}, value.Of(most)},
		{value.Is(false), value.Is(false), value.Is(true)},
		{value.Is(true), value.Of(2), {}},
	}
}

// keyColumns are columns of such rows: none, one, several, out of order, all, one twice.
func keyColumns() [][]int {
	return [][]int{nil, {0}, {1}, {2}, {0, 1}, {1, 0}, {2, 0}, {0, 1, 2}, {2, 1, 0}, {1, 1}, {0, 2, 0}}
}

// deepCopy is what l was, whatever a call does to it.
func deepCopy(l []api.Entry) []api.Entry {
	var copied []api.Entry
	for _, e := range l {
		copied = append(copied, api.Entry{Row: slices.Clone(e.Row), Weight: e.Weight})
	}
	return copied
}

// sameKeys tells whether a and b are the same rows.
func sameKeys(a, b []api.Row) bool {
	return slices.EqualFunc(a, b, func(x, y api.Row) bool { return row.Compare(x, y) == 0 })
}

// must inserts z, which is right.
func must(t *testing.T, a *Arrange, l ...[]api.Entry) {
	t.Helper()
	for _, z := range l {
		if err := a.Insert(z); err != nil {
			t.Fatalf("Insert(%v): %v", z, err)
		}
	}
}

// holds holds All and Keys against what they should be.
func holds(t *testing.T, name string, a *Arrange, all []api.Entry, keys []api.Row) {
	t.Helper()
	if got := a.All(); !zset.Same(got, all) {
		t.Errorf("%s: All: %v, want %v", name, got, all)
	}
	if got := a.Keys(); !sameKeys(got, keys) {
		t.Errorf("%s: Keys: %v, want %v", name, got, keys)
	}
}

// finds holds Lookup(key) against what it should be.
func finds(t *testing.T, name string, a *Arrange, key api.Row, want ...api.Entry) {
	t.Helper()
	if got := a.Lookup(key); !zset.Same(got, want) {
		t.Errorf("%s: Lookup(%s): %v, want %v", name, row.Show(key), got, want)
	}
}

// chunk holds Chunk against what it should be.
func chunk(t *testing.T, a *Arrange, after api.Row, any bool, n int, want ...api.Entry) {
	t.Helper()
	if got := a.Chunk(after, any, n); !zset.Same(got, want) {
		t.Errorf("Chunk(%s, %t, %d): %v, want %v", row.Show(after), any, n, got, want)
	}
}

func TestANewOneHasNothing(t *testing.T) {
	for _, cols := range [][]int{{0}, nil, {1, 0}, {-1}, {math.MaxInt}, {math.MinInt}, {2, 2}} {
		a := New(cols...)
		holds(t, "new", a, nil, nil)
		for _, key := range []api.Row{nil, {{}}, ints(0), ints(0, 0)} {
			finds(t, "new", a, key)
			chunk(t, a, key, true, 9)
			chunk(t, a, key, false, 9)
		}
	}
}

// Said in numbers, so that what the other tests hold against a model is held against the document here.
func TestRowsByAKey(t *testing.T) {
	a := New(1)
	must(t, a, zs(of(1, 7, 2), of(2, 5, -1), of(3, 7, 1)), zs(of(0, 6, 1), of(1, 7, 1), of(2, 7, 4)))
	holds(t, "by the second column", a, zs(of(0, 6, 1), of(1, 7, 3), of(2, 5, -1), of(2, 7, 4), of(3, 7, 1)), keys(5, 6, 7))
	finds(t, "by the second column", a, ints(5), of(2, 5, -1))
	finds(t, "by the second column", a, ints(6), of(0, 6, 1))
	finds(t, "by the second column", a, ints(7), of(1, 7, 3), of(2, 7, 4), of(3, 7, 1))
}

func TestLookupOfWhatIsNoKey(t *testing.T) {
	a := New(1)
	must(t, a, zs(of(1, 7, 2), of(2, 5, -1)))
	for _, key := range []api.Row{
		nil, ints(), ints(1), ints(6), ints(1, 7), ints(7, 7), ints(7, 1), {{}}, {value.Str("7")}, {value.Is(true)},
		{{Kind: api.Int, N: 7, S: "x"}}, {{Kind: -1, N: 7}}, {{Kind: 9, N: 7}},
	} {
		finds(t, "no key", a, key)
	}
}

func TestAKeyOfNoColumns(t *testing.T) {
	a := New()
	z := zs(api.Entry{Row: nil, Weight: 4}, api.Entry{Row: ints(1), Weight: 1}, of(1, 7, 2))
	must(t, a, z)
	holds(t, "no columns", a, z, []api.Row{{}})
	finds(t, "no columns", a, nil, z...)
	finds(t, "no columns", a, api.Row{}, z...)
	finds(t, "no columns", a, ints(1))
}

func TestAKeyOfSeveralColumns(t *testing.T) {
	z := zs(of(1, 7, 2), of(2, 5, -1), of(3, 7, 1))
	a := New(1, 0)
	must(t, a, z)
	holds(t, "turned round", a, z, []api.Row{ints(5, 2), ints(7, 1), ints(7, 3)})
	finds(t, "turned round", a, ints(7, 3), z[2])
	finds(t, "turned round", a, ints(3, 7))
	finds(t, "turned round", a, ints(7))

	b := New(1, 1)
	must(t, b, z)
	holds(t, "one twice", b, z, []api.Row{ints(5, 5), ints(7, 7)})
	finds(t, "one twice", b, ints(7, 7), z[0], z[2])
	finds(t, "one twice", b, ints(7))
}

// Null is a key as any other one.
func TestAKeyOfNull(t *testing.T) {
	a := New(0)
	z := zs(api.Entry{Row: api.Row{{}, value.Of(1)}, Weight: 1}, api.Entry{Row: api.Row{{}, value.Of(2)}, Weight: 1}, of(0, 1, 1))
	must(t, a, z)
	holds(t, "Null", a, z, []api.Row{{{}}, ints(0)})
	finds(t, "Null", a, api.Row{{}}, z[:2]...)
}

func TestWhatComesToNothingIsNoKeyAnyMore(t *testing.T) {
	a := New(1)
	must(t, a, zs(of(1, 7, 2), of(2, 5, -1), of(3, 7, 1)))
	must(t, a, zs(of(2, 5, 1), of(3, 7, -1)))
	holds(t, "one is left", a, zs(of(1, 7, 2)), keys(7))
	finds(t, "one is left", a, ints(5))
	finds(t, "one is left", a, ints(7), of(1, 7, 2))
	must(t, a, zs(of(1, 7, -2)))
	holds(t, "none is left", a, nil, nil)
	finds(t, "none is left", a, ints(7))
	chunk(t, a, nil, false, 9)
	must(t, a, zs(of(4, 5, 1)))
	holds(t, "one again", a, zs(of(4, 5, 1)), keys(5))
}

// Its rows' weights together are nothing, and yet it has entries.
func TestAKeyOfWeightsThatAreNothingTogether(t *testing.T) {
	a := New(1)
	z := zs(of(1, 7, 3), of(2, 7, -3), of(3, 8, most), of(4, 8, most))
	must(t, a, z)
	holds(t, "nothing together", a, z, keys(7, 8))
	finds(t, "nothing together", a, ints(7), z[:2]...)
	finds(t, "beyond together", a, ints(8), z[2:]...)
}

func TestRowsOfOtherLengths(t *testing.T) {
	a := New(1)
	z := zs(of(1, 7, 1), api.Entry{Row: ints(1, 7, 0), Weight: 2}, api.Entry{Row: ints(1, 8, 7, 7), Weight: 3}, api.Entry{Row: ints(2, 7, 9), Weight: 4})
	must(t, a, z)
	holds(t, "other lengths", a, z, keys(7, 8))
	finds(t, "other lengths", a, ints(7), z[0], z[1], z[3])
}

func TestErrArity(t *testing.T) {
	none := api.Entry{Weight: 1}
	for _, x := range []struct {
		name string
		cols []int
		z    []api.Entry
	}{
		{"the last row is too short", []int{1}, zs(of(8, 8, 1), api.Entry{Row: ints(9), Weight: 1})},
		{"the first row is too short", []int{1}, zs(api.Entry{Row: ints(1), Weight: 1}, of(8, 8, 1))},
		{"one in the middle", []int{1}, zs(of(6, 8, 1), api.Entry{Row: ints(7), Weight: 1}, of(8, 8, 1))},
		{"of no values", []int{0}, zs(none, of(8, 8, 1))},
		{"just behind the last column", []int{2}, zs(of(8, 8, 1))},
		{"one of several", []int{0, 2, 1}, zs(of(8, 8, 1))},
		{"the last of several", []int{1, 0, 5}, zs(of(8, 8, 1))},
		{"below 0", []int{-1}, zs(of(8, 8, 1))},
		{"below 0, among others", []int{0, -1, 1}, zs(of(8, 8, 1))},
		{"as far as can be", []int{math.MaxInt}, zs(of(8, 8, 1))},
		{"as low as can be", []int{math.MinInt}, zs(of(8, 8, 1))},
		{"weight 0", []int{2}, zs(of(8, 8, 0))},
	} {
		a := New(x.cols...)
		long := zs(api.Entry{Row: ints(1, 2, 3, 4, 5, 6), Weight: 2})
		var all []api.Entry
		if a.Insert(long) == nil { // no row has columns below 0, or as far as can be
			all = long
		}
		was := a.Keys()
		for range 3 {
			if err := a.Insert(x.z); err != api.ErrArity {
				t.Errorf("%s: %v", x.name, err)
			}
			holds(t, x.name, a, all, was)
		}
	}
}

// Of nothing no row is amiss.
func TestInsertOfNothing(t *testing.T) {
	for _, cols := range [][]int{nil, {0}, {5}, {-1}} {
		a := New(cols...)
		must(t, a, nil, zs())
		holds(t, "nothing", a, nil, nil)
	}
	a := New(0)
	must(t, a, zs(of(1, 7, 1)), nil, zs())
	holds(t, "nothing more", a, zs(of(1, 7, 1)), keys(1))
}

func TestErrOver(t *testing.T) {
	all := zs(of(1, 7, most), of(2, 5, least), of(3, 7, 4))
	for _, x := range []struct {
		name string
		z    []api.Entry
	}{
		{"above", zs(of(1, 7, 1))},
		{"below", zs(of(2, 5, -1))},
		{"far above", zs(of(1, 7, most))},
		{"far below", zs(of(2, 5, least))},
		{"behind one that is not", zs(of(0, 0, 1), of(1, 7, 1))},
		{"ahead of one that is not", zs(of(2, 5, -1), of(3, 7, 1), of(8, 8, 1))},
	} {
		a := New(1)
		must(t, a, zs(of(1, 7, most-2), of(2, 5, least), of(3, 7, 3)), zs(of(1, 7, 2), of(3, 7, 1)))
		for range few + 2 {
			if err := a.Insert(x.z); err != api.ErrOver {
				t.Errorf("%s: %v", x.name, err)
			}
			holds(t, x.name, a, all, keys(5, 7))
			finds(t, x.name, a, ints(8))
		}
		must(t, a, zs(of(1, 7, -most), of(2, 5, most)))
		holds(t, x.name, a, zs(of(2, 5, -1), of(3, 7, 4)), keys(5, 7))
	}
}

// ErrArity stands first in the call's sentence, whichever row comes first.
func TestErrArityAheadOfErrOver(t *testing.T) {
	for _, short := range []int64{0, 9} {
		a := New(1)
		must(t, a, zs(of(1, 7, most)))
		z, err := zset.Make(of(1, 7, 1), api.Entry{Row: ints(short), Weight: 1})
		if err != nil {
			t.Fatal(err)
		}
		if err := a.Insert(z); err != api.ErrArity {
			t.Errorf("Insert(%v): %v", z, err)
		}
		holds(t, "both", a, zs(of(1, 7, most)), keys(7))
	}
}

func TestChunk(t *testing.T) {
	z := zs(of(1, 9, 1), of(2, 5, -1), of(2, 7, 2), of(4, 1, 3))
	a := New(1) // the key's order is another one
	must(t, a, z[1:3], zs(z[0], z[3]))
	for _, x := range []struct {
		after api.Row
		any   bool
		want  []api.Entry
	}{
		{nil, false, z},
		{ints(9, 9), false, z}, // what after is does not count
		{nil, true, z},
		{ints(1), true, z},
		{ints(1, 9), true, z[1:]},
		{ints(2), true, z[1:]},
		{ints(2, 5), true, z[2:]},
		{ints(2, 6), true, z[2:]},
		{ints(2, 7), true, z[3:]},
		{ints(2, 7, 0), true, z[3:]},
		{ints(3, 0), true, z[3:]},
		{ints(4, 1), true, nil},
		{ints(5), true, nil},
		{api.Row{value.Str("")}, true, nil},
		{api.Row{{Kind: -1}}, true, z},
		{api.Row{{Kind: 9}}, true, nil},
	} {
		for n := range len(z) + 2 {
			chunk(t, a, x.after, x.any, n, x.want[:min(n, len(x.want))]...)
		}
		chunk(t, a, x.after, x.any, math.MaxInt, x.want...)
		chunk(t, a, x.after, x.any, -1)
		chunk(t, a, x.after, x.any, math.MinInt)
	}
}

// Piece by piece, each behind the last row of the one ahead, it is all.
func TestChunkByChunk(t *testing.T) {
	for n := 1; n < 9; n++ {
		p := newPair(t, 1)
		for i, r := range kinds() {
			p.insert(zs(api.Entry{Row: r, Weight: int64(i + 1)}))
		}
		var all []api.Entry
		var last api.Row
		for piece := p.arrange.Chunk(nil, false, n); len(piece) > 0; piece = p.arrange.Chunk(last, true, n) {
			if len(piece) > n || len(all) > len(kinds()) {
				t.Fatalf("Chunk of %d behind %d: %v", n, len(all), piece)
			}
			all = append(all, piece...)
			last = all[len(all)-1].Row
		}
		if want := p.want(); !zset.Same(all, want) {
			t.Errorf("Chunks of %d: %v, want %v", n, all, want)
		}
	}
}

// pair is an arrange, and all that it should be, in numbers without bounds, by what row.Show says of a row.
type pair struct {
	t       *testing.T
	cols    []int
	arrange *Arrange
	rows    map[string]api.Row
	sum     map[string]*big.Int
}

func newPair(t *testing.T, cols ...int) *pair {
	return &pair{t: t, cols: cols, arrange: New(cols...), rows: map[string]api.Row{}, sum: map[string]*big.Int{}}
}

// want is all rows that do not come to 0.
func (p *pair) want() []api.Entry {
	var l []api.Entry
	for key, w := range p.sum {
		if w.Sign() != 0 {
			l = append(l, api.Entry{Row: p.rows[key], Weight: w.Int64()})
		}
	}
	slices.SortFunc(l, func(a, b api.Entry) int { return row.Compare(a.Row, b.Row) })
	return l
}

// key is r's; false: it has none.
func (p *pair) key(r api.Row) (api.Row, bool) {
	var key api.Row
	for _, c := range p.cols {
		if c < 0 || c >= len(r) {
			return nil, false
		}
		key = append(key, r[c])
	}
	return key, true
}

// after is what the weights of z's rows would be behind an insert of z, and the error that it would be answered by.
func (p *pair) after(z []api.Entry) (map[string]*big.Int, error) {
	after, over := map[string]*big.Int{}, error(nil)
	for _, e := range z {
		if _, ok := p.key(e.Row); !ok {
			return nil, api.ErrArity
		}
		w := big.NewInt(e.Weight)
		if was := p.sum[row.Show(e.Row)]; was != nil {
			w.Add(w, was)
		}
		if !w.IsInt64() {
			over = api.ErrOver
		}
		after[row.Show(e.Row)] = w
	}
	return after, over
}

// insert inserts z, a z-set, and holds the answer, and all that is told then, against what it should be.
func (p *pair) insert(z []api.Entry) {
	p.t.Helper()
	after, wantErr := p.after(z)
	if err := p.arrange.Insert(z); err != wantErr {
		p.t.Errorf("Insert(%v): %v, want %v", z, err, wantErr)
	}
	for _, e := range z {
		if wantErr == nil {
			p.rows[row.Show(e.Row)] = slices.Clone(e.Row)
			p.sum[row.Show(e.Row)] = after[row.Show(e.Row)]
		}
	}
	p.look()
}

// look holds All, Keys, Lookup and Chunk against what they should be.
func (p *pair) look() {
	p.t.Helper()
	want := p.want()
	byKey := map[string][]api.Entry{}
	var keys []api.Row
	for _, e := range want {
		key, _ := p.key(e.Row)
		if byKey[row.Show(key)] == nil {
			keys = append(keys, key)
		}
		byKey[row.Show(key)] = append(byKey[row.Show(key)], e)
	}
	slices.SortFunc(keys, row.Compare)
	holds(p.t, "as many calls came", p.arrange, want, keys)
	for _, r := range p.rows { // those that came to nothing, too
		key, _ := p.key(r)
		finds(p.t, "as many calls came", p.arrange, key, byKey[row.Show(key)]...)
	}
	for i, e := range want {
		chunk(p.t, p.arrange, e.Row, true, 2, want[i+1:min(i+3, len(want))]...)
	}
	chunk(p.t, p.arrange, nil, false, 3, want[:min(3, len(want))]...)
}

// A rule that mixes: no random source.
func TestManyCallsInARow(t *testing.T) {
	weights := []int64{1, -1, 1, -1, 2, -3, least, least + 1, most/2 + 1, most - 1, most}
	for i, cols := range append(keyColumns(), []int{3}, []int{-1}, []int{1, 3}) {
		seed := uint32(i)
		pick := func(n int) int {
			seed = seed*1664525 + 1013904223
			return int(seed>>16) % n
		}
		p := newPair(t, cols...)
		for range 3 * few {
			var z []api.Entry
			for _, r := range kinds() {
				if pick(4) == 0 {
					z = append(z, api.Entry{Row: r, Weight: weights[pick(len(weights))]})
				}
			}
			if pick(9) == 0 {
				z = append(z, api.Entry{Row: api.Row{value.Is(true), value.Str("last")}[:1+pick(2)], Weight: 1})
				slices.SortFunc(z, func(a, b api.Entry) int { return row.Compare(a.Row, b.Row) })
			}
			p.insert(z)
		}
	}
}

// Each order in which rows come to be there is told the same.
func TestWhichBatchARowCameWithDoesNotCount(t *testing.T) {
	for _, cols := range keyColumns() {
		rows := kinds()
		one, other := New(cols...), New(cols...)
		for i := range rows {
			must(t, one, zs(api.Entry{Row: rows[i], Weight: 1}))
			must(t, other, zs(api.Entry{Row: rows[len(rows)-1-i], Weight: 1}))
		}
		holds(t, "the other way round", one, other.All(), other.Keys())
		for _, key := range one.Keys() {
			finds(t, "the other way round", one, key, other.Lookup(key)...)
		}
	}
}

// What is asked goes over all batches: they must not be as many as Inserts were.
func TestBatchesStayFew(t *testing.T) {
	a := New(0)
	for i := range int64(50 * few) {
		must(t, a, zs(of(i%7, i, 1)))
		if got := a.rows.Batches(); got > few {
			t.Fatalf("behind %d inserts: %d batches", i+1, got)
		}
	}
	if got := a.Keys(); !sameKeys(got, keys(0, 1, 2, 3, 4, 5, 6)) || len(a.All()) != 50*few {
		t.Errorf("Keys: %v, All: %d", got, len(a.All()))
	}
}

// spoil writes into a list that was handed out, and into all that lies behind its rows' lengths.
func spoil(t *testing.T, l []api.Entry) {
	t.Helper()
	for i := range l {
		was := deepCopy(l)
		_ = append(l[i].Row, value.Of(77))
		if !zset.Same(l, was) {
			t.Errorf("appended to a row: %v, was %v", l, was)
		}
	}
	for i := range l {
		for k := range l[i].Row {
			l[i].Row[k] = value.Of(77)
		}
		l[i].Weight = 77
	}
	_ = append(l, of(77, 77, 77))
	_ = append(l[:0], of(77, 77, 77))
}

// spoilKeys does so to keys.
func spoilKeys(t *testing.T, l []api.Row) {
	t.Helper()
	for i := range l {
		was := make([]api.Row, len(l))
		for k := range l {
			was[k] = slices.Clone(l[k])
		}
		_ = append(l[i], value.Of(77))
		if !sameKeys(l, was) {
			t.Errorf("appended to a key: %v, was %v", l, was)
		}
	}
	for i := range l {
		for k := range l[i] {
			l[i][k] = value.Of(77)
		}
	}
	_ = append(l, ints(77))
	_ = append(l[:0], ints(77))
}

func TestAnswersAreNewMemory(t *testing.T) {
	z, more := zs(of(1, 7, 2), of(2, 5, -1), of(3, 7, 1)), zs(of(2, 7, 1))
	all := zs(of(1, 7, 2), of(2, 5, -1), of(2, 7, 1), of(3, 7, 1))
	a := New(1)
	must(t, a, z, more)
	for range 2 {
		other, found, piece, held := a.All(), a.Lookup(ints(7)), a.Chunk(nil, false, 2), a.Keys()
		spoil(t, a.All())
		spoil(t, a.Lookup(ints(7)))
		spoil(t, a.Chunk(nil, false, 2))
		spoil(t, a.Chunk(ints(2), true, 1))
		spoilKeys(t, a.Keys())
		if !zset.Same(other, all) || !zset.Same(found, zs(all[0], all[2], all[3])) || !zset.Same(piece, all[:2]) || !sameKeys(held, keys(5, 7)) {
			t.Errorf("other answers: %v, %v, %v, %v", other, found, piece, held)
		}
		holds(t, "writes into answers", a, all, keys(5, 7))
		finds(t, "writes into answers", a, ints(7), all[0], all[2], all[3])
		a.rows.Work(math.MaxInt) // all in one batch
	}
}

func TestAnswersStayAsTheyWere(t *testing.T) {
	a := New(1)
	z := zs(of(1, 7, 2), of(2, 5, -1))
	must(t, a, z)
	all, held, found, piece := a.All(), a.Keys(), a.Lookup(ints(7)), a.Chunk(nil, false, 1)
	for range few + 2 {
		must(t, a, zs(of(1, 7, 1), of(2, 5, -1), of(3, 1, 1)))
	}
	if !zset.Same(all, z) || !sameKeys(held, keys(5, 7)) || !zset.Same(found, z[:1]) || !zset.Same(piece, z[:1]) {
		t.Errorf("behind other calls: %v, %v, %v, %v", all, held, found, piece)
	}
}

func TestWhatIsHandedInIsNeitherChangedNorKept(t *testing.T) {
	cols := []int{1}
	a := New(cols...)
	cols[0] = 0
	z := zs(of(1, 7, 2), of(2, 5, -1))
	was := deepCopy(z)
	must(t, a, z)
	key, after := ints(7), ints(1, 7)
	finds(t, "ahead", a, key, was[0])
	chunk(t, a, after, true, 9, was[1])
	if !zset.Same(z, was) || row.Compare(key, ints(7)) != 0 || row.Compare(after, ints(1, 7)) != 0 {
		t.Errorf("what was handed in: %v, %v, %v", z, key, after)
	}
	spoil(t, z)
	holds(t, "writes into what was handed in", a, was, keys(5, 7))
	finds(t, "writes into what was handed in", a, ints(7), was[0])
}

func TestWhatLiesBehindTheLength(t *testing.T) {
	cols := []int{1, 0, 9}
	back := zs(of(1, 7, 1), of(2, 5, 1), api.Entry{Row: ints(3), Weight: 1})
	long := ints(1, 7, 9)
	a := New(cols[:1]...)
	must(t, a, back[:2], zs(api.Entry{Row: long[:2], Weight: 1}))
	finds(t, "a part of a row", a, long[1:2], of(1, 7, 2))
	chunk(t, a, long[:2], true, 9, of(2, 5, 1))
	holds(t, "a part of a list", a, zs(of(1, 7, 2), of(2, 5, 1)), keys(5, 7))
	if err := New(2).Insert(zs(api.Entry{Row: long[:2], Weight: 1})); err != api.ErrArity {
		t.Errorf("a column behind the length: %v", err)
	}
	if !slices.Equal(cols, []int{1, 0, 9}) || !zset.Same(back, zs(of(1, 7, 1), of(2, 5, 1), api.Entry{Row: ints(3), Weight: 1})) || row.Compare(long, ints(1, 7, 9)) != 0 {
		t.Errorf("what lies behind the length: %v, %v, %v", cols, back, long)
	}
}

func TestArrangesAreApart(t *testing.T) {
	z := zs(of(1, 7, 2), of(2, 5, -1))
	a, b := New(0), New(1)
	must(t, a, z)
	must(t, b, z)
	must(t, a, zs(of(1, 7, -2), of(3, 3, 1)))
	holds(t, "one", a, zs(of(2, 5, -1), of(3, 3, 1)), keys(2, 3))
	holds(t, "the other", b, z, keys(5, 7))
}

// Wrong values are ordered as row.Compare says, and are keys as right ones are.
func TestRowsOfNoRightValues(t *testing.T) {
	wrong := api.Row{{Kind: -1, N: 9, S: "z"}, {Kind: api.Null, S: "x"}, {Kind: api.Int, N: 1, S: "a"}, {Kind: api.Int, N: 1, S: "b"}, {Kind: 7}}
	a := New(0)
	var all []api.Entry
	var held []api.Row
	for i, v := range wrong {
		all = append(all, api.Entry{Row: api.Row{v}, Weight: int64(i + 1)})
		held = append(held, api.Row{v})
	}
	must(t, a, all)
	holds(t, "wrong values", a, all, held)
	for i, key := range held {
		finds(t, "wrong values", a, key, all[i])
		chunk(t, a, key, true, 9, all[i+1:]...)
	}
}

// No more is promised of lists that are no z-sets than that a call ends and does not panic; that they are taken as package spine takes them is this package's own choice.
func TestListsThatAreNoZsets(t *testing.T) {
	for _, x := range []struct {
		name    string
		z, want []api.Entry
		keys    []api.Row
		err     error
	}{
		{"out of order", zs(of(3, 1, 1), of(1, 7, 1), of(2, 7, 1)), zs(of(1, 7, 2), of(2, 7, 1), of(3, 1, 1)), keys(1, 7), nil},
		{"a row twice", zs(of(2, 5, 1), of(2, 5, 3)), zs(of(1, 7, 1), of(2, 5, 4)), keys(5, 7), nil},
		{"weight 0", zs(of(1, 7, 0), of(5, 5, 0)), zs(of(1, 7, 1)), keys(7), nil},
		{"nothing together", zs(of(4, 4, 1), of(4, 4, -1)), zs(of(1, 7, 1)), keys(7), nil},
		{"beyond", zs(of(3, 1, 1), of(2, 5, most), of(2, 5, 1)), zs(of(1, 7, 1)), keys(7), api.ErrOver},
		{"no rows at all", zs(api.Entry{}, api.Entry{}), zs(of(1, 7, 1)), keys(7), api.ErrArity},
	} {
		a := New(1)
		must(t, a, zs(of(1, 7, 1)))
		if err := a.Insert(x.z); err != x.err {
			t.Errorf("%s: %v, want %v", x.name, err, x.err)
		}
		holds(t, x.name, a, x.want, x.keys)
	}
}
