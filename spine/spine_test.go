package spine

import (
	"math"
	"math/big"
	"slices"
	"testing"

	"belvedere/api"
	"belvedere/row"
	"belvedere/value"
	"belvedere/zset"
)

const (
	most  = math.MaxInt64
	least = math.MinInt64
)

// of is the row (n), w times.
func of(n, w int64) api.Entry { return api.Entry{Row: api.Row{value.Of(n)}, Weight: w} }

// zs is a list of entries.
func zs(l ...api.Entry) []api.Entry { return l }

// lists are several of them.
func lists(l ...[]api.Entry) [][]api.Entry { return l }

// runOf are the rows from (from) on, up to (to), that one not, each once.
func runOf(from, to int64) []api.Entry {
	var z []api.Entry
	for n := from; n < to; n++ {
		z = append(z, of(n, 1))
	}
	return z
}

// minus is z with each weight turned round.
func minus(z []api.Entry) []api.Entry {
	var l []api.Entry
	for _, e := range z {
		l = append(l, api.Entry{Row: e.Row, Weight: -e.Weight})
	}
	return l
}

// edges are weights about the bounds and about 0.
func edges() []int64 { return []int64{least, least + 1, least / 2, -1, 1, most/2 + 1, most - 1, most} }

// kinds are rows in row.Compare's order: of no values, of several Kinds, one the beginning of another.
func kinds() []api.Row {
	return []api.Row{
		nil,
		{{}},
		{value.Of(least)},
		{value.Of(1)},
		{value.Of(1), {}},
		{value.Of(1), value.Str("a")},
		{value.Of(2)},
		{value.Str("")},
		{value.Str("a"), value.Of(9)},
		{value.Is(false)},
		{value.Is(true), value.Of(0)},
	}
}

// deepCopy is what l was, whatever a call does to it.
func deepCopy(l []api.Entry) []api.Entry {
	var copied []api.Entry
	for _, e := range l {
		copied = append(copied, api.Entry{Row: slices.Clone(e.Row), Weight: e.Weight})
	}
	return copied
}

// pair is a spine, and all that it should be, in numbers without bounds, by what row.Show says of a row.
type pair struct {
	t     *testing.T
	spine Spine
	rows  map[string]api.Row
	sum   map[string]*big.Int
	put   int // so many entries were inserted
}

func newPair(t *testing.T, l ...[]api.Entry) *pair {
	p := &pair{t: t, rows: map[string]api.Row{}, sum: map[string]*big.Int{}}
	for _, z := range l {
		p.insert(z)
	}
	return p
}

// want is the sum without the rows that come to 0.
func (p *pair) want() []api.Entry {
	var l []api.Entry
	for key, w := range p.sum {
		if w.Sign() != 0 {
			l = append(l, api.Entry{Row: p.rows[key], Weight: w.Int64()})
		}
	}
	slices.SortFunc(l, func(a, b api.Entry) int { return row.Compare(a.Row, b.Row) })
	return l
}

// weight is a row's.
func (p *pair) weight(r api.Row) *big.Int {
	if w := p.sum[row.Show(r)]; w != nil {
		return w
	}
	return new(big.Int)
}

// insert inserts z, a z-set, and holds the answer against what it should be: ErrOver, and all as it was, just where a row would be beyond.
func (p *pair) insert(z []api.Entry) {
	p.t.Helper()
	after, wantErr := map[string]*big.Int{}, error(nil)
	for _, e := range z {
		w := new(big.Int).Add(p.weight(e.Row), big.NewInt(e.Weight))
		if !w.IsInt64() {
			wantErr = api.ErrOver
		}
		after[row.Show(e.Row)] = w
	}
	was := p.spine.Batches()
	if err := p.spine.Insert(z); err != wantErr {
		p.t.Errorf("Insert(%v): %v, want %v", z, err, wantErr)
	}
	if now := p.spine.Batches(); wantErr != nil && now != was {
		p.t.Errorf("Insert(%v): %d batches, were %d", z, now, was)
	}
	for _, e := range z {
		p.rows[row.Show(e.Row)] = slices.Clone(e.Row)
		if wantErr == nil {
			p.sum[row.Show(e.Row)] = after[row.Show(e.Row)]
		}
	}
	if wantErr == nil {
		p.put += len(z)
	}
	p.look("Insert")
}

// work works with that fuel, and holds what is told against what it should be.
func (p *pair) work(fuel int) int {
	p.t.Helper()
	was := p.spine.Batches()
	n := p.spine.Work(fuel)
	if n < 0 || n > max(fuel, 0) {
		p.t.Errorf("Work(%d): %d", fuel, n)
	}
	now := p.spine.Batches()
	if now > was {
		p.t.Errorf("Work(%d): %d batches, were %d", fuel, now, was)
	}
	if was > 1 && fuel >= p.put && now > 1 {
		p.t.Errorf("Work(%d): %d batches, of %d entries at most", fuel, now, p.put)
	}
	p.look("Work")
	return n
}

// look holds All, Get and Rows against what they should be.
func (p *pair) look(behind string) {
	p.t.Helper()
	want := p.want()
	if got := p.spine.All(); !zset.Same(got, want) {
		p.t.Errorf("All behind %s: %v, want %v", behind, got, want)
	}
	if got := p.spine.Rows(); got != len(want) {
		p.t.Errorf("Rows behind %s: %d, want %d", behind, got, len(want))
	}
	for _, r := range p.rows {
		if got := p.spine.Get(r); got != p.weight(r).Int64() {
			p.t.Errorf("Get(%s) behind %s: %d, want %d", row.Show(r), behind, got, p.weight(r))
		}
	}
	if p.spine.Batches() == 0 && len(want) > 0 {
		p.t.Errorf("no batches behind %s, and rows", behind)
	}
}

// batches holds how many there are against how many there should be.
func (p *pair) batches(name string, want int) {
	p.t.Helper()
	if got := p.spine.Batches(); got != want {
		p.t.Errorf("%s: %d batches, want %d", name, got, want)
	}
}

func TestTheZeroValue(t *testing.T) {
	var s Spine
	if got := s.All(); len(got) != 0 {
		t.Errorf("All: %v", got)
	}
	for _, r := range kinds() {
		if got := s.Get(r); got != 0 {
			t.Errorf("Get(%s): %d", row.Show(r), got)
		}
	}
	for _, fuel := range []int{math.MinInt, -1, 0, 1, 99, math.MaxInt} {
		if got := s.Work(fuel); got != 0 {
			t.Errorf("Work(%d): %d", fuel, got)
		}
	}
	if s.Rows() != 0 || s.Batches() != 0 {
		t.Errorf("Rows: %d, Batches: %d", s.Rows(), s.Batches())
	}
}

// Said in numbers, so that what the other tests hold against a sum is held against the document here.
func TestAllGetRows(t *testing.T) {
	var s Spine
	for _, z := range lists(zs(of(1, 2), of(3, 1)), zs(of(2, 5), of(3, -1)), zs(of(0, 1), of(1, -1), of(9, 4))) {
		if err := s.Insert(z); err != nil {
			t.Fatal(err)
		}
	}
	if got, want := s.All(), zs(of(0, 1), of(1, 1), of(2, 5), of(9, 4)); !zset.Same(got, want) {
		t.Errorf("All: %v, want %v", got, want)
	}
	for n, want := range []int64{1, 1, 5, 0, 0, 0, 0, 0, 0, 4, 0} {
		if got := s.Get(of(int64(n), 1).Row); got != want {
			t.Errorf("Get of (%d): %d, want %d", n, got, want)
		}
	}
	if s.Rows() != 4 || s.Batches() != 3 {
		t.Errorf("Rows: %d, Batches: %d", s.Rows(), s.Batches())
	}
}

// sequences are z-sets that come one behind the other.
func sequences() map[string][][]api.Entry {
	var all, odd []api.Entry
	for i, r := range kinds() {
		all = append(all, api.Entry{Row: r, Weight: int64(i + 1)})
		if i%2 == 1 {
			odd = append(odd, api.Entry{Row: r, Weight: int64(-i - 1)})
		}
	}
	return map[string][][]api.Entry{
		"one":                              lists(zs(of(1, 2), of(3, -1))),
		"apart":                            lists(zs(of(3, 1), of(4, 1)), zs(of(1, 1), of(2, 1)), zs(of(5, 1))),
		"each between the other's":         lists(zs(of(1, 1), of(3, 1)), zs(of(2, 1), of(4, 1)), zs(of(0, 1), of(5, 1))),
		"the same":                         lists(zs(of(1, 1), of(2, -1)), zs(of(1, 1), of(2, -1)), zs(of(1, 1), of(2, -1))),
		"a row comes to 0":                 lists(zs(of(1, 1), of(2, 1), of(3, 1)), zs(of(2, -1))),
		"a row comes to 0 and is again":    lists(zs(of(1, 1), of(2, 1)), zs(of(2, -1)), zs(of(2, 5), of(3, 1))),
		"all come to 0":                    lists(zs(of(1, 7), of(2, -1)), zs(of(1, -4), of(2, 1)), zs(of(1, -3))),
		"all come to 0, and another":       lists(zs(of(1, 7)), zs(of(1, -7)), zs(of(2, 1))),
		"many small ones behind a great":   lists(runOf(0, 20), zs(of(3, 1)), zs(of(3, -2)), zs(of(30, 1)), zs(of(7, -1))),
		"a great one behind small ones":    lists(zs(of(3, 1)), zs(of(30, 1)), runOf(0, 20)),
		"rows of all kinds":                lists(all, odd, all),
		"the empty row":                    lists(zs(api.Entry{Weight: 1}), zs(api.Entry{Row: api.Row{}, Weight: 2}), zs(of(1, 1))),
		"empty ones":                       lists(nil, zs(of(1, 1)), zs(), zs(of(2, 1)), nil),
		"from bound to bound":              lists(zs(of(1, most)), zs(of(1, least)), zs(of(1, -most))),
		"the last two together are beyond": lists(zs(of(1, -most)), zs(of(1, most)), zs(of(1, most))),
		"below, too":                       lists(zs(of(1, most)), zs(of(1, least)), zs(of(1, -most), of(2, 1))),
		"-2^64 behind 2^63 - 1, by two":    lists(zs(of(1, most)), zs(of(1, least)), zs(of(1, 1)), zs(of(1, least))),
		"2^64 on the way":                  lists(zs(of(1, least)), zs(of(1, most)), zs(of(1, 1)), zs(of(1, most)), zs(of(0, 1), of(1, -5), of(2, 1))),
		"one that is beyond":               lists(zs(of(1, most), of(2, 1)), zs(of(0, 1), of(1, 1), of(2, 1), of(3, 1)), zs(of(2, 1), of(3, 1))),
	}
}

func TestInsert(t *testing.T) {
	for _, l := range sequences() {
		newPair(t, l...)
	}
}

func TestInsertKeepsNoEmptyBatch(t *testing.T) {
	p := newPair(t, nil, zs())
	p.batches("empty ones", 0)
	p.insert(zs(of(1, 1)))
	p.insert(nil)
	p.insert(zs())
	p.batches("one among empty ones", 1)
	p.insert(zs(of(1, -1)))
	p.insert(nil)
	p.batches("two among empty ones", 2)
	p.work(2)
	p.batches("what came to nothing", 0)
	p.insert(nil)
	p.batches("an empty one behind nothing", 0)
}

func TestInsertTellsOver(t *testing.T) {
	for _, x := range []struct {
		name string
		z    []api.Entry
	}{
		{"one above", zs(of(1, 1))},
		{"far above", zs(of(1, most))},
		{"one below", zs(of(5, -1))},
		{"far below", zs(of(5, least))},
		{"the first row", zs(of(1, 1), of(2, 1), of(8, 1))},
		{"a row in the middle", zs(of(0, 1), of(1, 1), of(2, 1))},
		{"the last row", zs(of(0, 1), of(1, -1), of(5, -1))},
		{"two rows", zs(of(0, 1), of(1, 2), of(5, -2), of(6, 1))},
		{"beside a row that comes to 0", zs(of(1, 1), of(3, -4))},
	} {
		for fuel := range 12 {
			p := newPair(t, zs(of(1, most-2), of(3, 4)), zs(of(1, 2), of(5, least+1)), zs(of(3, 1), of(5, -1)), zs(of(3, -1)))
			p.work(fuel)
			was, batches := p.spine.All(), p.spine.Batches()
			if err := p.spine.Insert(x.z); err != api.ErrOver {
				t.Errorf("%s: %v", x.name, err)
			}
			if got := p.spine.All(); !zset.Same(got, was) {
				t.Errorf("%s: All: %v, was %v", x.name, got, was)
			}
			p.batches(x.name, batches)
			p.look(x.name)
			p.work(p.put)
			p.insert(zs(of(1, -1), of(3, -4), of(5, 1)))
			p.insert(zs(of(1, 1), of(5, -1)))
			p.work(p.put)
		}
	}
}

func TestInsertAtTheBounds(t *testing.T) {
	for _, a := range edges() {
		for _, b := range edges() {
			for _, c := range edges() {
				for fuel := range 4 {
					p := newPair(t, zs(of(1, a), of(2, 1)))
					p.insert(zs(of(1, b)))
					p.work(fuel)
					p.insert(zs(of(0, 1), of(1, c)))
					p.work(fuel)
					p.insert(zs(of(1, a)))
					p.work(p.put)
				}
			}
		}
	}
}

func TestWorkOfNoFuel(t *testing.T) {
	for name, l := range sequences() {
		for _, fuel := range []int{0, -1, -99, math.MinInt} {
			p := newPair(t, l...)
			was := p.spine.Batches()
			if n := p.work(fuel); n != 0 {
				t.Errorf("%s: Work(%d): %d", name, fuel, n)
			}
			p.batches(name, was)
		}
	}
}

// one holds that there is one batch, or none where nothing is left.
func (p *pair) one(name string) {
	p.t.Helper()
	p.batches(name, min(1, len(p.want())))
}

func TestWorkOfEachFuel(t *testing.T) {
	for name, l := range sequences() {
		for fuel := range newPair(t, l...).put + 3 {
			p := newPair(t, l...)
			want := min(fuel, p.put) // each entry once
			if p.spine.Batches() < 2 {
				want = 0
			}
			if n := p.work(fuel); n != want {
				t.Errorf("%s: Work(%d): %d, want %d", name, fuel, n, want)
			}
			if fuel >= p.put {
				p.one(name)
			}
		}
		p := newPair(t, l...)
		p.work(math.MaxInt)
		p.one(name)
	}
}

func TestWorkByAndBy(t *testing.T) {
	for name, l := range sequences() {
		for fuel := 1; fuel < 8; fuel++ {
			p, n := newPair(t, l...), 0
			for range p.put {
				n += p.work(fuel)
			}
			p.one(name)
			if n > p.put {
				t.Errorf("%s: %d entries were gone through, of %d", name, n, p.put)
			}
			if n := p.work(p.put + 1); n != 0 {
				t.Errorf("%s: Work of one batch: %d", name, n)
			}
		}
	}
}

func TestWorkOfOneBatch(t *testing.T) {
	p := newPair(t, zs(of(1, 1), of(2, 1), of(3, 1)))
	for _, fuel := range []int{-1, 0, 1, 2, 3, 4, 99} {
		if n := p.work(fuel); n != 0 {
			t.Errorf("Work(%d): %d", fuel, n)
		}
		p.batches("one", 1)
	}
}

// All rows are apart: there are as many entries as were inserted, whatever was merged ahead.
func TestWorkOfJustAllEntriesBehindAnInsert(t *testing.T) {
	for first := range 12 {
		for second := range 12 {
			p := newPair(t, runOf(0, 4), runOf(10, 13), runOf(5, 8))
			p.work(first)
			p.insert(runOf(20, 22))
			p.work(second)
			p.insert(zs(of(-1, 1), of(9, 1), of(30, 1)))
			if p.spine.entries() != p.put {
				t.Errorf("%d entries, want %d", p.spine.entries(), p.put)
			}
			p.work(p.put)
			p.batches("just all entries", 1)
		}
	}
}

// What was merged to one has as many entries as rows: Work of these and the new ones is of all entries that there are.
func TestWorkOfJustAllEntriesThatAreLeft(t *testing.T) {
	p := newPair(t, runOf(0, 9), runOf(2, 9), minus(runOf(5, 9)))
	p.work(p.put)
	p.batches("one", 1)
	for range 3 {
		for fuel := range 5 {
			all := p.spine.Rows() + 3
			p.insert(zs(of(0, 1), of(3, -1), of(20, 1)))
			p.work(fuel)
			if n := p.work(all); n > all {
				t.Errorf("Work(%d): %d", all, n)
			}
			p.batches("just all entries that are left", 1)
		}
	}
}

func TestInsertWhileAMergeIsUnderWay(t *testing.T) {
	for first := range 8 {
		for second := range 16 {
			p := newPair(t, zs(of(1, 1), of(4, 1), of(6, 1)), zs(of(2, 1), of(4, -1), of(5, 1)))
			p.work(first)
			p.insert(zs(of(0, 1), of(1, -1), of(4, 1), of(7, 1))) // ahead of, at and behind what was merged
			p.work(second)
			p.insert(zs(of(2, -1), of(4, 1)))
			for range p.put {
				p.work(2)
			}
			p.one("by and by")
		}
	}
}

func TestWhatComesToNothingIsNotKept(t *testing.T) {
	z := runOf(0, 5)
	p := newPair(t, z, minus(z))
	p.batches("ahead of Work", 2)
	p.work(3)
	p.insert(zs(of(7, 1)))
	p.work(7)
	p.batches("the one that is left", 1)
	p.insert(zs(of(7, -1)))
	p.work(2)
	p.batches("nothing", 0)
	p.insert(z)
	p.batches("one again", 1)
}

// A rule that mixes: no random source.
func TestManyCallsInARow(t *testing.T) {
	for seed := range uint32(60) {
		pick := func(n int) int {
			seed = seed*1664525 + 1013904223
			return int(seed>>16) % n
		}
		weights := append(edges(), 2, -3, 5, 1, -1)
		p := newPair(t)
		for range 40 {
			if pick(3) == 0 {
				p.work(pick(12) - 1)
				continue
			}
			var z []api.Entry
			for _, r := range kinds() {
				if pick(3) == 0 {
					z = append(z, api.Entry{Row: r, Weight: weights[pick(len(weights))]})
				}
			}
			p.insert(z)
		}
		p.work(p.put)
	}
}

// Each sequence of four steps: inserts of small z-sets at the bounds, and Work.
func TestAllShortSequences(t *testing.T) {
	l := lists(zs(of(1, most)), zs(of(1, least)), zs(of(1, 1), of(2, 1)), zs(of(1, -1)), zs(of(2, -1)))
	const steps = 7
	for code := range steps * steps * steps * steps {
		p := newPair(t, zs(of(1, -1), of(2, 1)))
		for rest := code; rest > 0; rest /= steps {
			if k := rest % steps; k < len(l) {
				p.insert(l[k])
			} else {
				p.work(k - len(l) + 1)
			}
		}
		p.work(p.put)
	}
}

func TestAnswersAreNewMemory(t *testing.T) {
	for fuel := range 8 {
		p := newPair(t, zs(of(1, 1), of(2, 1), api.Entry{Row: api.Row{value.Of(3), value.Of(3)}, Weight: 1}), zs(of(2, 1), of(4, 1)))
		p.work(fuel)
		one, two := p.spine.All(), p.spine.All()
		was := deepCopy(two)
		for i := range one {
			now := deepCopy(one)
			_ = append(one[i].Row, value.Of(77))
			if !zset.Same(one, now) {
				t.Errorf("appended to a row: %v, was %v", one, now)
			}
			one[i].Row[0] = value.Of(77)
			one[i].Weight = 77
		}
		_ = append(one, of(77, 77))
		_ = append(one[:1], of(77, 77))
		if !zset.Same(two, was) {
			t.Errorf("another answer: %v, was %v", two, was)
		}
		p.look("writes into an answer")
		p.work(p.put)
		p.insert(zs(of(1, 1), of(4, -1)))
		if !zset.Same(two, was) {
			t.Errorf("an answer behind other calls: %v, was %v", two, was)
		}
	}
}

func TestWhatIsHandedInIsNeitherChangedNorKept(t *testing.T) {
	p := newPair(t)
	for _, z := range lists(zs(of(1, 1), of(2, most)), zs(of(1, 2), of(2, 1)), zs(of(1, -3), of(5, 1))) {
		was := deepCopy(z)
		p.insert(z)
		if !zset.Same(z, was) {
			t.Errorf("what was handed in: %v, was %v", z, was)
		}
		for i := range z {
			z[i].Row[0] = value.Of(77)
			z[i] = of(78, 78)
		}
		p.look("writes into what was handed in")
	}
	r := of(5, 1).Row
	if got := p.spine.Get(r); got != 1 || !slices.Equal(r, of(5, 1).Row) {
		t.Errorf("Get: %d, of %v", got, r)
	}
	p.work(p.put)
}

func TestWhatLiesBehindTheLength(t *testing.T) {
	back, long := zs(of(1, 1), of(2, 1), of(3, 1)), api.Row{value.Of(1), value.Of(2)}
	p := newPair(t, back[:1], back[:2], zs(api.Entry{Row: long[:1], Weight: 1}))
	p.work(1)
	p.work(p.put)
	if got := p.spine.Get(long[:1]); got != 3 {
		t.Errorf("Get: %d", got)
	}
	if got := p.spine.Get(long); got != 0 {
		t.Errorf("Get of a longer row: %d", got)
	}
	if !zset.Same(back, runOf(1, 4)) || long[1] != value.Of(2) {
		t.Errorf("what lies behind the length: %v, %v", back, long)
	}
}

func TestSpinesAreApart(t *testing.T) {
	z := runOf(0, 4)
	p, q := newPair(t, z, z), newPair(t, z, z)
	p.work(3)
	q.insert(minus(z))
	q.work(q.put)
	p.insert(zs(of(2, 7)))
	p.batches("one", 3)
	q.look("what is done to another")
	q.batches("the other", 1)
	p.work(p.put)
}

func TestRowsOfNoRightValues(t *testing.T) {
	wrong := []api.Row{
		{{Kind: -1, N: 9, S: "z"}},
		{{Kind: api.Null, S: "x"}},
		{{Kind: api.Int, N: 1, S: "a"}},
		{{Kind: api.Int, N: 1, S: "b"}},
		{{Kind: 7}},
	}
	var s Spine
	var want []api.Entry
	for i, r := range wrong {
		for range i + 1 {
			s.Insert(zs(api.Entry{Row: r, Weight: 2}))
		}
		want = append(want, api.Entry{Row: r, Weight: int64(2*i + 2)})
	}
	for s.Batches() > 1 {
		if got := s.All(); !zset.Same(got, want) {
			t.Fatalf("All: %v, want %v", got, want)
		}
		if s.Work(2) == 0 {
			t.Fatal("Work comes to no end")
		}
	}
	if got := s.All(); !zset.Same(got, want) {
		t.Errorf("All: %v, want %v", got, want)
	}
}

// No more is promised of lists that are no z-sets than that a call ends and does not panic; that each row's weights count together is this package's own choice.
func TestListsThatAreNoZsets(t *testing.T) {
	for _, x := range []struct {
		name    string
		z, want []api.Entry
		err     error
	}{
		{"out of order", zs(of(3, 1), of(1, 1), of(2, 1)), zs(of(1, 2), of(2, 1), of(3, 1)), nil},
		{"a row twice", zs(of(2, 1), of(2, 3)), zs(of(1, 1), of(2, 4)), nil},
		{"weight 0", zs(of(1, 0), of(5, 0)), zs(of(1, 1)), nil},
		{"nothing together", zs(of(4, 1), of(4, -1)), zs(of(1, 1)), nil},
		{"beyond on the way", zs(of(2, most), of(2, most), of(2, -most)), zs(of(1, 1), of(2, most)), nil},
		{"beyond", zs(of(3, 1), of(2, most), of(2, 1)), zs(of(1, 1)), api.ErrOver},
		{"beyond with what is there", zs(of(1, most), of(1, -1), of(1, 1)), zs(of(1, 1)), api.ErrOver},
		{"no rows at all", zs(api.Entry{}, api.Entry{}, api.Entry{}), zs(of(1, 1)), nil},
	} {
		for fuel := range 6 {
			var s Spine
			s.Insert(zs(of(1, 1)))
			if err := s.Insert(x.z); err != x.err {
				t.Errorf("%s: %v, want %v", x.name, err, x.err)
			}
			s.Work(fuel)
			if got := s.All(); !zset.Same(got, x.want) || s.Rows() != len(x.want) {
				t.Errorf("%s: %v, want %v", x.name, got, x.want)
			}
		}
	}
}

func TestManyBatches(t *testing.T) {
	const many, each = 1 << 10, 1 << 3
	var s Spine
	for i := range int64(many) {
		var z []api.Entry
		for k := range int64(each) { // a row of its own, and one that all have
			z = append(z, of(k*(many+1)+many-1-i, 1), of(k*(many+1)+many, 1))
		}
		if err := s.Insert(z); err != nil {
			t.Fatal(err)
		}
	}
	through := 0
	for s.Batches() > 1 {
		n := s.Work(1000)
		if n == 0 {
			t.Fatal("Work comes to no end")
		}
		through += n
	}
	if through != 2*many*each {
		t.Errorf("%d entries were gone through, of %d", through, 2*many*each)
	}
	if s.Rows() != each*(many+1) || s.Get(of(many, 1).Row) != many || s.Get(of(0, 1).Row) != 1 {
		t.Errorf("Rows: %d, Get: %d, %d", s.Rows(), s.Get(of(many, 1).Row), s.Get(of(0, 1).Row))
	}
}
