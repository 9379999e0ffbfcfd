package once

import (
	"math"
	"math/big"
	"math/rand"
	"slices"
	"strings"
	"testing"

	"belvedere/api"
	"belvedere/value"
	"belvedere/zset"
)

const (
	most  = math.MaxInt64
	least = math.MinInt64
)

// ints is the row of these numbers.
func ints(l ...int64) api.Row {
	r := api.Row{}
	for _, n := range l {
		r = append(r, value.Of(n))
	}
	return r
}

// many is the row r, w times.
func many(w int64, r ...api.Value) api.Entry { return api.Entry{Row: r, Weight: w} }

// one is the row (a), w times; two the row (a, b).
func one(a, w int64) api.Entry { return many(w, ints(a)...) }

func two(a, b, w int64) api.Entry { return many(w, ints(a, b)...) }

// zs is a list of entries.
func zs(l ...api.Entry) []api.Entry { return l }

// alike holds entries against each other without the program's own calls.
func alike(a, b []api.Entry) bool {
	return slices.EqualFunc(a, b, func(x, y api.Entry) bool {
		return x.Weight == y.Weight && slices.Equal(x.Row, y.Row)
	})
}

// deepCopy is what l was, whatever a call does to it.
func deepCopy(l []api.Entry) []api.Entry {
	var own []api.Entry
	for _, e := range l {
		own = append(own, api.Entry{Row: slices.Clone(e.Row), Weight: e.Weight})
	}
	return own
}

func onces(t *testing.T, name string, z, want []api.Entry) {
	t.Helper()
	if got := Once(z); !alike(got, want) {
		t.Errorf("%s: Once(%v): %v, want %v", name, z, got, want)
	}
}

func changes(t *testing.T, name string, old, delta, want []api.Entry, wantErr error) {
	t.Helper()
	if got, err := Change(old, delta); err != wantErr || !alike(got, want) {
		t.Errorf("%s: Change(%v, %v): %v, %v; want %v, %v", name, old, delta, got, err, want, wantErr)
	}
}

// inOrder are rows in row.Compare's order, of several lengths and Kinds, some beginning others.
func inOrder() []api.Row {
	return []api.Row{
		nil,
		{{}},
		{{}, {}},
		ints(least),
		ints(-1),
		ints(1),
		{value.Of(1), {}},
		ints(1, 1),
		ints(1, 1, 1),
		ints(1, 10),
		{value.Of(1), value.Str("a")},
		ints(2),
		ints(most),
		{value.Str("")},
		{value.Str("a"), value.Of(9)},
		{value.Str("aa")},
		{value.Is(false)},
		{value.Is(true), value.Of(0)},
	}
}

// weighed are these rows with these weights, those of weight 0 left out.
func weighed(rows []api.Row, weights []int64) []api.Entry {
	var z []api.Entry
	for i, r := range rows {
		if weights[i] != 0 {
			z = append(z, many(weights[i], r...))
		}
	}
	return z
}

// edges are weights about the bounds and about 0, and halves of the bounds.
func edges() []int64 {
	return []int64{least, least + 1, least/2 - 1, least / 2, -3, -2, -1, 0, 1, 2, 3, most / 2, most/2 + 1, most - 1, most}
}

func TestTheseTestsTakeZsets(t *testing.T) {
	rows := inOrder()
	if z := weighed(rows, slices.Repeat([]int64{1}, len(rows))); !zset.Check(z) || len(z) != len(rows) {
		t.Error("inOrder is not in order")
	}
}

func TestOnce(t *testing.T) {
	for _, x := range []struct {
		name    string
		z, want []api.Entry
	}{
		{"nothing", nil, nil},
		{"the empty list", zs(), nil},
		{"once", zs(one(5, 1)), zs(one(5, 1))},
		{"twice", zs(one(5, 2)), zs(one(5, 1))},
		{"the most", zs(one(5, most)), zs(one(5, 1))},
		{"-1 times", zs(one(5, -1)), nil},
		{"-2 times", zs(one(5, -2)), nil},
		{"the least", zs(one(5, least)), nil},
		{"some of all", zs(one(1, 2), one(2, -3), one(3, 1), one(4, most), one(5, least), one(6, 7)), zs(one(1, 1), one(3, 1), one(4, 1), one(6, 1))},
		{"none of all", zs(one(1, -1), one(2, -3), one(3, least)), nil},
		{"the first only", zs(one(1, 9), one(2, -3), one(3, -1)), zs(one(1, 1))},
		{"the last only", zs(one(1, -9), one(2, -3), one(3, 4)), zs(one(3, 1))},
		{"the empty row", zs(many(4)), zs(many(1))},
		{"the empty row below 0", zs(many(-4), one(1, 2)), zs(one(1, 1))},
		{"rows that begin others", zs(many(3), one(1, 3), two(1, 1, -3), two(1, 2, 3)), zs(many(1), one(1, 1), two(1, 2, 1))},
		{"rows that are alike but for one value", zs(two(1, 2, 4), two(1, 3, 5), two(2, 2, 6)), zs(two(1, 2, 1), two(1, 3, 1), two(2, 2, 1))},
	} {
		onces(t, x.name, x.z, x.want)
	}
}

func TestOnceOfAllRowsAndWeights(t *testing.T) {
	rows := inOrder()
	all := weighed(rows, slices.Repeat([]int64{1}, len(rows)))
	for _, w := range edges() {
		z, want := weighed(rows, slices.Repeat([]int64{w}, len(rows))), all
		if w <= 0 {
			want = nil
		}
		onces(t, "all rows", z, want)
		for i := range z {
			onces(t, "one row", z[i:i+1], want[min(i, len(want)):min(i+1, len(want))])
		}
	}
}

func TestOnceOfOnce(t *testing.T) {
	rows := inOrder()
	all := weighed(rows, slices.Repeat([]int64{1}, len(rows)))
	onces(t, "it is itself", Once(all), all)
}

func TestOnceOfAnyZset(t *testing.T) {
	r := rand.New(rand.NewSource(13))
	rows := inOrder()
	for range 2000 {
		weights := randomWeights(r, len(rows))
		want := weighed(rows, each(weights, isThere))
		onces(t, "any", weighed(rows, weights), want)
	}
}

func randomWeights(r *rand.Rand, n int) []int64 {
	var l []int64
	for range n {
		l = append(l, edges()[r.Intn(len(edges()))])
	}
	return l
}

func each(l []int64, f func(int64) int64) []int64 {
	var out []int64
	for _, n := range l {
		out = append(out, f(n))
	}
	return out
}

// isThere is how often a row of that weight is there: once, or not.
func isThere(w int64) int64 {
	if w > 0 {
		return 1
	}
	return 0
}

func TestChange(t *testing.T) {
	old := zs(one(1, 2), one(2, -3), one(3, 1), one(4, most), one(6, least))
	for _, x := range []struct {
		name        string
		delta, want []api.Entry
	}{
		{"nothing", nil, nil},
		{"the empty list", zs(), nil},
		{"a row that is not there, once", zs(one(5, 1)), zs(one(5, 1))},
		{"a row that is not there, often", zs(one(5, 9)), zs(one(5, 1))},
		{"a row that is not there, the most", zs(one(5, most)), zs(one(5, 1))},
		{"a row that is not there, below 0", zs(one(5, -1)), nil},
		{"a row that is not there, the least", zs(one(5, least)), nil},
		{"ahead of all", zs(one(0, 1)), zs(one(0, 1))},
		{"behind all", zs(one(9, 1)), zs(one(9, 1))},
		{"more of what is there", zs(one(1, 1)), nil},
		{"less of what is there, still above 0", zs(one(1, -1)), nil},
		{"from the most to 1", zs(one(4, -(most - 1))), nil},
		{"to 0", zs(one(1, -2)), zs(one(1, -1))},
		{"from once to 0", zs(one(3, -1)), zs(one(3, -1))},
		{"from the most to 0", zs(one(4, -most)), zs(one(4, -1))},
		{"to below 0", zs(one(1, -3)), zs(one(1, -1))},
		{"far below 0", zs(one(1, least)), zs(one(1, -1))},
		{"from the most to below 0", zs(one(4, least)), zs(one(4, -1))},
		{"from below 0 to above it", zs(one(2, 4)), zs(one(2, 1))},
		{"from below 0 far above it", zs(one(2, most)), zs(one(2, 1))},
		{"from below 0 to 0", zs(one(2, 3)), nil},
		{"from below 0, less far below", zs(one(2, 2)), nil},
		{"from below 0, farther below", zs(one(2, -1)), nil},
		{"from the least, still below 0", zs(one(6, most)), nil},
		{"some of all", zs(one(0, 3), one(1, -1), one(2, 4), one(3, -1), one(4, -1), one(5, 2), one(6, 1), one(7, -1)), zs(one(0, 1), one(2, 1), one(3, -1), one(5, 1))},
		{"all of it away", zs(one(1, -2), one(2, 3), one(3, -1), one(4, -most), one(6, most)), zs(one(1, -1), one(3, -1), one(4, -1))},
		{"a row that begins one of old's", zs(many(1)), zs(many(1))},
		{"a row that one of old's begins", zs(two(1, 1, 5), two(4, 1, -5)), zs(two(1, 1, 1))},
	} {
		changes(t, x.name, old, x.delta, x.want, nil)
	}
}

func TestChangeOfNothing(t *testing.T) {
	z := zs(many(2), one(1, -3), two(1, 1, 1), one(2, most), one(3, least))
	want := zs(many(1), two(1, 1, 1), one(2, 1))
	for _, none := range [][]api.Entry{nil, zs()} {
		changes(t, "nothing by nothing", none, nil, nil, nil)
		changes(t, "nothing by the empty list", none, zs(), nil, nil)
		changes(t, "nothing by something", none, z, want, nil)
		changes(t, "something by nothing", z, none, nil, nil)
	}
}

func TestChangeOfTheEmptyRow(t *testing.T) {
	changes(t, "comes", nil, zs(many(5)), zs(many(1)), nil)
	changes(t, "comes ahead of others", zs(one(1, 1)), zs(many(5)), zs(many(1)), nil)
	changes(t, "goes", zs(many(5), one(1, 1)), zs(many(-5)), zs(many(-1)), nil)
	changes(t, "goes, beside one that comes", zs(many(5)), zs(many(-6), one(1, 1)), zs(many(-1), one(1, 1)), nil)
	changes(t, "stays", zs(many(5)), zs(many(-4)), nil, nil)
	changes(t, "is beyond", zs(many(most)), zs(many(1)), nil, api.ErrOver)
}

func TestChangeAllAway(t *testing.T) {
	rows := inOrder()
	for _, w := range []int64{1, 2, most} {
		z := weighed(rows, slices.Repeat([]int64{w}, len(rows)))
		gone := weighed(rows, slices.Repeat([]int64{-w}, len(rows)))
		changes(t, "all away", z, gone, weighed(rows, slices.Repeat([]int64{-1}, len(rows))), nil)
		changes(t, "all back", gone, z, nil, nil)
		changes(t, "all away of nothing", nil, gone, nil, nil)
	}
}

// changed is what old and delta, weights of the same rows, change of Once, by numbers without bounds.
func changed(rows []api.Row, old, delta []int64) ([]api.Entry, error) {
	var weights []int64
	for i := range rows {
		both := new(big.Int).Add(big.NewInt(old[i]), big.NewInt(delta[i]))
		if !both.IsInt64() {
			return nil, api.ErrOver
		}
		weights = append(weights, isThere(int64(both.Sign()))-isThere(old[i]))
	}
	return weighed(rows, weights), nil
}

func TestChangeOfAllWeights(t *testing.T) {
	rows := inOrder()[4:9]
	for place := range rows {
		for _, before := range edges() {
			for _, more := range edges() {
				for _, beside := range []int64{0, 1} {
					old, delta := slices.Repeat([]int64{beside}, len(rows)), slices.Repeat([]int64{-beside}, len(rows))
					old[place], delta[place] = before, more
					want, wantErr := changed(rows, old, delta)
					changes(t, "one row among others", weighed(rows, old), weighed(rows, delta), want, wantErr)
				}
			}
		}
	}
}

func TestChangeTellsOver(t *testing.T) {
	old := zs(one(1, most), one(2, 1), one(3, least), one(4, -1), one(5, most))
	for _, x := range []struct {
		name  string
		delta []api.Entry
	}{
		{"one more than the most", zs(one(1, 1))},
		{"far more than the most", zs(one(5, most))},
		{"one less than the least", zs(one(3, -1))},
		{"far less than the least", zs(one(3, least))},
		{"the most, and one that is there", zs(one(2, most))},
		{"the least, and one below 0", zs(one(4, least))},
		{"the first, beside one that comes", zs(one(1, 1), one(9, 1))},
		{"the last, beside one that comes", zs(one(0, 1), one(5, 1))},
		{"the last, beside one that goes", zs(one(2, -1), one(5, 1))},
		{"in the middle", zs(one(2, -1), one(3, -1), one(4, 2))},
		{"several, one above and one below", zs(one(1, 1), one(3, -1))},
	} {
		changes(t, x.name, old, x.delta, nil, api.ErrOver)
	}
	changes(t, "the most by 0, of two rows", zs(one(1, most-1), one(2, most)), zs(one(1, 1), one(3, most)), zs(one(3, 1)), nil)
	changes(t, "weights at the bounds that are not touched", old, zs(one(2, -1), one(4, 2)), zs(one(2, -1), one(4, 1)), nil)
	changes(t, "from the most to the least but one", old, zs(one(1, least), one(5, least)), zs(one(1, -1), one(5, -1)), nil)
}

func TestChangeOfAnyZsets(t *testing.T) {
	r := rand.New(rand.NewSource(14))
	rows := inOrder()
	for n := range 6000 {
		old, delta := randomWeights(r, len(rows)), randomWeights(r, len(rows))
		for i := range delta {
			within := new(big.Int).Add(big.NewInt(old[i]), big.NewInt(delta[i])).IsInt64()
			if n%2 == 0 && !within || r.Intn(3) == 0 {
				delta[i] = 0
			}
		}
		want, wantErr := changed(rows, old, delta)
		if n%2 == 0 && wantErr != nil {
			t.Fatal("this test is wrong: none should be beyond")
		}
		changes(t, "any", weighed(rows, old), weighed(rows, delta), want, wantErr)
	}
}

func TestChangesKeepOnceUpToDate(t *testing.T) {
	r := rand.New(rand.NewSource(15))
	rows := inOrder()
	var now, kept []api.Entry
	for range 2000 {
		weights := make([]int64, len(rows))
		for range r.Intn(4) {
			weights[r.Intn(len(rows))] = int64(r.Intn(5) - 2)
		}
		delta := weighed(rows, weights)
		change, err := Change(now, delta)
		if err != nil || !zset.Check(change) {
			t.Fatalf("Change(%v, %v): %v, %v", now, delta, change, err)
		}
		now, _ = zset.Add(now, delta)
		kept, _ = zset.Add(kept, change)
		if !alike(kept, Once(now)) {
			t.Fatalf("behind %v: %v is kept, but it is %v", delta, kept, Once(now))
		}
	}
}

func TestChangeOfAFewRowsOfMany(t *testing.T) {
	const size = 1000
	var old []api.Entry
	for n := range int64(size) {
		old = append(old, one(2*n, 1+n%2))
	}
	for n := range int64(size) {
		want := zs(one(2*n, -1))
		if n%2 == 1 {
			want = nil
		}
		changes(t, "a row that is there", old, zs(one(2*n, -1)), want, nil)
		changes(t, "a row between", old, zs(one(2*n+1, 1)), zs(one(2*n+1, 1)), nil)
	}
	changes(t, "many rows of a few", old[:3], old, Once(old[3:]), nil)
}

func TestListsThatAreNoZsets(t *testing.T) {
	r := rand.New(rand.NewSource(16))
	rows := append(inOrder(), api.Row{{Kind: 9, N: 5, S: "x"}}, api.Row{{Kind: -1}}, api.Row{{S: "x"}})
	mixed := func() []api.Entry {
		var l []api.Entry
		for range r.Intn(9) {
			l = append(l, many(randomWeights(r, 1)[0], rows[r.Intn(len(rows))]...))
		}
		return l
	}
	for range 5000 { // nothing is promised but that they end
		a, b := mixed(), mixed()
		wasA, wasB := deepCopy(a), deepCopy(b)
		Once(a)
		if got, err := Change(a, b); err != nil && (err != api.ErrOver || got != nil) {
			t.Errorf("Change(%v, %v): %v, %v", a, b, got, err)
		}
		if !alike(a, wasA) || !alike(b, wasB) {
			t.Errorf("what was handed in was changed: %v, %v", a, b)
		}
	}
	onces(t, "weights 0", zs(one(1, 0), one(2, 3), one(3, 0)), zs(one(2, 1)))
	changes(t, "by weights 0", zs(one(1, 1), one(2, -1)), zs(one(1, 0), one(2, 0), one(3, 0)), nil, nil)
}

func TestWrongValues(t *testing.T) {
	kind, below, null := api.Row{{Kind: 9, N: 5, S: "x"}}, api.Row{{Kind: -1}}, api.Row{{S: "x"}}
	z := zs(many(2, below...), many(-2, null...), many(3, kind...))
	onces(t, "wrong values", z, zs(many(1, below...), many(1, kind...)))
	changes(t, "wrong values", z, zs(many(-2, below...), many(3, null...), many(-1, kind...)), zs(many(-1, below...), many(1, null...)), nil)
}

// call is a call that answers a z-set.
type call func(old, delta []api.Entry) []api.Entry

func calls(t *testing.T) map[string]call {
	return map[string]call{
		"Once": func(old, delta []api.Entry) []api.Entry { return append(Once(old), Once(delta)...) },
		"Change": func(old, delta []api.Entry) []api.Entry {
			z, err := Change(old, delta)
			if err != nil {
				t.Errorf("Change(%v, %v): %v", old, delta, err)
			}
			return z
		},
	}
}

// pairs are what is handed in, so that rows come, go and stay.
func pairs() map[string][2][]api.Entry {
	return map[string][2][]api.Entry{
		"some of all":      {zs(many(1), two(1, 7, 1), two(2, 7, 2), two(3, 7, -1), two(5, 7, 5)), zs(many(-1), two(1, 7, -2), two(2, 7, 1), two(3, 7, 2), two(4, 7, 3))},
		"only ones there":  {zs(two(1, 7, 1), two(2, 7, 2)), zs(two(1, 7, -1), two(2, 7, -2))},
		"out of nothing":   {nil, zs(two(1, 7, 1), two(2, 7, 2), two(3, 7, -1))},
		"behind the other": {zs(two(1, 7, 1), two(2, 7, 2)), zs(two(3, 7, 1), two(4, 7, 2))},
	}
}

func TestAnswersAreNewMemory(t *testing.T) {
	for name, call := range calls(t) {
		for _, p := range pairs() {
			old, delta := p[0], p[1]
			wasOld, wasDelta := deepCopy(old), deepCopy(delta)
			first, second := call(old, delta), call(old, delta)
			if len(first) == 0 || !alike(old, wasOld) || !alike(delta, wasDelta) {
				t.Fatalf("%s: %v of %v, %v", name, first, old, delta)
			}
			was := deepCopy(second)
			writeAll(t, name, first)
			if !alike(old, wasOld) || !alike(delta, wasDelta) {
				t.Errorf("%s: what was handed in shows what was written into the answer", name)
			}
			if !alike(second, was) {
				t.Errorf("%s: an answer shows what was written into another", name)
			}
			writeAll(t, name, old)
			writeAll(t, name, delta)
			if !alike(second, was) {
				t.Errorf("%s: the answer shows what was written into what was handed in", name)
			}
		}
	}
}

// writeAll writes into all of z, and behind what it has, and holds z's rows against each other on the way.
func writeAll(t *testing.T, name string, z []api.Entry) {
	for i := range z {
		was := deepCopy(z)
		_ = append(z[i].Row, value.Of(77))
		if !alike(z, was) {
			t.Errorf("%s: a row shows what was appended to another", name)
		}
		for k := range z[i].Row {
			z[i].Row[k] = value.Of(77)
		}
		if was[i].Row = z[i].Row; !alike(z, was) {
			t.Errorf("%s: a row shows what was written into another", name)
		}
		z[i].Weight = 77
	}
	_ = append(z, one(77, 77))
	_ = append(z[:0], one(77, 77))
}

func TestWhatIsHandedInIsNotChangedWhereAnErrorIsTold(t *testing.T) {
	old, delta := zs(one(1, 1), one(2, 2), one(3, most)), zs(one(1, -1), one(2, 1), one(3, 1))
	wasOld, wasDelta := deepCopy(old), deepCopy(delta)
	for range 2 {
		changes(t, "beyond", old, delta, nil, api.ErrOver)
	}
	if !alike(old, wasOld) || !alike(delta, wasDelta) {
		t.Errorf("Change changed what was handed in: %v, %v", old, delta)
	}
	changes(t, "behind an error", old, delta[:2], zs(one(1, -1)), nil)
}

func TestOneListHandedInTwice(t *testing.T) {
	z := zs(one(1, 1), one(2, -1), one(3, most/2), one(4, least/2))
	changes(t, "itself twice", z, z, nil, nil)
	room := zs(one(1, 1), one(2, 1), one(2, -1), one(3, 1))
	changes(t, "two parts of one list", room[:2], room[2:], zs(one(2, -1), one(3, 1)), nil)
	changes(t, "two parts of one list, the other way round", room[2:], room[:2], zs(one(1, 1)), nil)
}

func TestWhatLiesBehindTheLength(t *testing.T) {
	for name, call := range calls(t) {
		for _, p := range pairs() {
			old, delta := widen(p[0]), widen(p[1])
			was := deepCopy(slices.Concat(old, delta))
			behindWas := behind(old, delta)
			got := call(old[:len(p[0])], delta[:len(p[1])])
			if want := call(p[0], p[1]); !alike(got, want) {
				t.Errorf("%s: what lies behind the length is read: %v, want %v", name, got, want)
			}
			writeAll(t, name, got)
			if !alike(slices.Concat(old, delta), was) || !alike(behind(old, delta), behindWas) {
				t.Errorf("%s: what lies behind the length is written: %v, %v", name, old, delta)
			}
		}
	}
}

// widen is z with an entry more, and each row with room behind it in which something stands.
func widen(z []api.Entry) []api.Entry {
	var wide []api.Entry
	for _, e := range append(slices.Clone(z), two(7, 7, 7)) {
		r := append(append(api.Row{}, e.Row...), ints(7, 8, 9)...)
		wide = append(wide, many(e.Weight, r[:len(e.Row)]...))
	}
	return wide
}

// behind is what widen put behind the rows of l.
func behind(l ...[]api.Entry) []api.Entry {
	var rest []api.Entry
	for _, e := range slices.Concat(l...) {
		n := len(e.Row)
		rest = append(rest, many(1, slices.Clone(e.Row[n:n+3])...))
	}
	return rest
}

func TestTextsAsTheyAre(t *testing.T) {
	long := value.Str(strings.Repeat("z", api.MaxText))
	old := zs(many(1, value.Str("")), many(2, value.Str("it's")), many(3, long), many(-4, value.Str("\xff")))
	onces(t, "texts", old, zs(many(1, value.Str("")), many(1, value.Str("it's")), many(1, long)))
	delta := zs(many(-1, value.Str("")), many(1, value.Str("it")), many(-3, long), many(5, value.Str("\xff")))
	changes(t, "texts", old, delta, zs(many(-1, value.Str("")), many(1, value.Str("it")), many(-1, long), many(1, value.Str("\xff"))), nil)
}
