package zset

import (
	"math"
	"math/big"
	"slices"
	"strings"
	"testing"

	"belvedere/api"
	"belvedere/row"
	"belvedere/value"
)

const (
	most  = math.MaxInt64
	least = math.MinInt64
)

// ints is a row of Ints.
func ints(l ...int64) api.Row {
	var r api.Row
	for _, n := range l {
		r = append(r, value.Of(n))
	}
	return r
}

// of is the row (n), w times.
func of(n, w int64) api.Entry { return api.Entry{Row: ints(n), Weight: w} }

// zs is a list of entries.
func zs(l ...api.Entry) []api.Entry { return l }

// alike holds entries against each other without the package's own calls.
func alike(a, b []api.Entry) bool {
	return slices.EqualFunc(a, b, func(x, y api.Entry) bool {
		return x.Weight == y.Weight && slices.Equal(x.Row, y.Row)
	})
}

// deepCopy is what l was, whatever a call does to it.
func deepCopy(l []api.Entry) []api.Entry {
	var own []api.Entry
	for _, e := range l {
		own = append(own, api.Entry{Row: slices.Clone(e.Row), Weight: e.Weight})
	}
	return own
}

// expect holds an answer against what it should be.
func expect(t *testing.T, name string, got []api.Entry, err error, want []api.Entry, wantErr error) {
	t.Helper()
	if err != wantErr || !alike(got, want) {
		t.Errorf("%s: %v, %v; want %v, %v", name, got, err, want, wantErr)
	}
}

// edges are weights about the bounds and about 0, and halves of the bounds.
func edges() []int64 {
	return []int64{least, least + 1, least / 2, least/2 - 1, -2, -1, 0, 1, 2, most / 2, most/2 + 1, most - 1, most}
}

// sumOf is a row's weights together as numbers without bounds, as the answer of a call.
func sumOf(r api.Row, parts ...*big.Int) ([]api.Entry, error) {
	sum := new(big.Int)
	for _, p := range parts {
		sum.Add(sum, p)
	}
	if !sum.IsInt64() {
		return nil, api.ErrOver
	}
	if sum.Sign() == 0 {
		return nil, nil
	}
	return zs(api.Entry{Row: r, Weight: sum.Int64()}), nil
}

func minus(w int64) *big.Int { return new(big.Int).Neg(big.NewInt(w)) }

// inOrder are rows in row.Compare's order.
func inOrder() []api.Row {
	return []api.Row{
		nil,
		{{}},
		{{}, {}},
		ints(least),
		ints(-1),
		ints(1),
		{value.Of(1), {}},
		ints(1, 1),
		ints(1, 10),
		{value.Of(1), value.Str("a")},
		ints(2),
		ints(10),
		{value.Str("")},
		{value.Str("a"), value.Of(9)},
		{value.Str("aa")},
		{value.Is(false)},
		{value.Is(true), value.Of(0)},
	}
}

func TestMake(t *testing.T) {
	for _, x := range []struct {
		name    string
		l, want []api.Entry
	}{
		{"nothing", nil, nil},
		{"the empty list", zs(), nil},
		{"one", zs(of(1, 3)), zs(of(1, 3))},
		{"one below 0", zs(of(1, -3)), zs(of(1, -3))},
		{"out of order", zs(of(3, 1), of(1, 2), of(2, 3)), zs(of(1, 2), of(2, 3), of(3, 1))},
		{"a row twice", zs(of(1, 2), of(1, 3)), zs(of(1, 5))},
		{"a row twice, apart", zs(of(1, 2), of(2, 7), of(1, 3)), zs(of(1, 5), of(2, 7))},
		{"a row and its opposite", zs(of(1, 1), of(1, -1)), nil},
		{"nothing in the middle", zs(of(2, -4), of(3, 1), of(1, 1), of(2, 4)), zs(of(1, 1), of(3, 1))},
		{"nothing first", zs(of(1, 1), of(2, 1), of(1, -1)), zs(of(2, 1))},
		{"nothing last", zs(of(2, 1), of(1, 1), of(2, -1)), zs(of(1, 1))},
		{"weight 0", zs(of(1, 0)), nil},
		{"weight 0 beside others", zs(of(2, 0), of(1, 1), of(1, 0), of(0, 0)), zs(of(1, 1))},
		{"the empty row", zs(api.Entry{Weight: 2}, of(1, 1), api.Entry{Row: api.Row{}, Weight: 3}), zs(api.Entry{Weight: 5}, of(1, 1))},
		{"a row that begins another", zs(api.Entry{Row: ints(1, 1), Weight: 1}, of(1, 1)), zs(of(1, 1), api.Entry{Row: ints(1, 1), Weight: 1})},
	} {
		got, err := Make(x.l...)
		expect(t, x.name, got, err, x.want, nil)
	}
}

func TestMakeSortsRowsOfAllKinds(t *testing.T) {
	var want []api.Entry
	for i, r := range inOrder() {
		want = append(want, api.Entry{Row: r, Weight: int64(i + 1)})
	}
	for step := 1; step < len(want); step++ { // a prime length: each step meets each entry once
		var mixed []api.Entry
		for i := range want {
			mixed = append(mixed, want[i*step%len(want)])
		}
		got, err := Make(mixed...)
		expect(t, "mixed", got, err, want, nil)
	}
}

func TestMakeTakesAnyEntries(t *testing.T) {
	wrong := []api.Row{
		{{Kind: -1, N: 9, S: "z"}},
		{{Kind: api.Null, S: "x"}},
		{{Kind: api.Int, N: 1, S: "a"}},
		{{Kind: api.Int, N: 1, S: "b"}},
		{value.Str(strings.Repeat("z", api.MaxText+1))},
		{{Kind: 7}},
	}
	var l, want []api.Entry
	for _, r := range wrong {
		l = append(zs(api.Entry{Row: r, Weight: 1}), append(l, api.Entry{Row: row.Copy(r), Weight: 2})...)
		want = append(want, api.Entry{Row: r, Weight: 3})
	}
	got, err := Make(l...)
	expect(t, "wrong values", got, err, want, nil)
}

func TestMakeAtTheBounds(t *testing.T) {
	for _, a := range edges() {
		for _, b := range edges() {
			for _, c := range edges() {
				got, err := Make(of(1, a), of(1, b), of(1, c))
				want, wantErr := sumOf(ints(1), big.NewInt(a), big.NewInt(b), big.NewInt(c))
				expect(t, "three weights", got, err, want, wantErr)
			}
		}
	}
}

func TestMakeWhereWhatIsBetweenIsBeyond(t *testing.T) {
	for _, bound := range []int64{most, least} {
		var l []api.Entry
		for range 1000 {
			l = append(l, of(1, bound))
		}
		got, err := Make(l...)
		expect(t, "far beyond", got, err, nil, api.ErrOver)
		for range 999 {
			l = append(l, of(1, -(bound/2)), of(1, -(bound-bound/2)))
		}
		got, err = Make(l...)
		expect(t, "far beyond and back", got, err, zs(of(1, bound)), nil)
	}
	// A sum that is a multiple of 2^64 is not 0.
	got, err := Make(of(1, least), of(1, least))
	expect(t, "-2^64", got, err, nil, api.ErrOver)
	got, err = Make(of(1, most), of(1, most), of(1, 2))
	expect(t, "2^64", got, err, nil, api.ErrOver)
}

func TestMakeTellsOverOfAnyRow(t *testing.T) {
	for n := int64(1); n <= 3; n++ {
		got, err := Make(of(1, 1), of(2, 1), of(3, 1), of(n, most))
		expect(t, "over beside others", got, err, nil, api.ErrOver)
	}
	got, err := Make(of(1, most), of(2, most), of(3, least), of(4, least))
	expect(t, "the bounds, each of a row of its own", got, err, zs(of(1, most), of(2, most), of(3, least), of(4, least)), nil)
}

func TestAdd(t *testing.T) {
	a, b := zs(of(1, 2), of(2, -3), of(4, 1)), zs(of(2, 3), of(3, 5), of(4, 1))
	for _, x := range []struct {
		name       string
		a, b, want []api.Entry
	}{
		{"nothing and nothing", nil, zs(), nil},
		{"something and nothing", a, nil, a},
		{"some of both", a, b, zs(of(1, 2), of(3, 5), of(4, 2))},
		{"all of one ahead", zs(of(1, 1), of(2, 1)), zs(of(3, 1), of(4, 1)), zs(of(1, 1), of(2, 1), of(3, 1), of(4, 1))},
		{"one between the other's", zs(of(1, 1), of(3, 1)), zs(of(2, 1)), zs(of(1, 1), of(2, 1), of(3, 1))},
		{"a row and its opposite", zs(of(1, 7)), zs(of(1, -7)), nil},
		{"the last comes to nothing", zs(of(1, 1), of(2, 1)), zs(of(2, -1)), zs(of(1, 1))},
		{"a row that begins another", zs(of(1, 1)), zs(api.Entry{Row: ints(1, 1), Weight: 1}), zs(of(1, 1), api.Entry{Row: ints(1, 1), Weight: 1})},
		{"the empty row", zs(api.Entry{Weight: 1}), zs(api.Entry{Row: api.Row{}, Weight: 1}, of(1, 1)), zs(api.Entry{Weight: 2}, of(1, 1))},
	} {
		got, err := Add(x.a, x.b)
		expect(t, x.name, got, err, x.want, nil)
		got, err = Add(x.b, x.a)
		expect(t, x.name+", the other way round", got, err, x.want, nil)
	}
}

func TestSub(t *testing.T) {
	a, b := zs(of(1, 2), of(2, -3), of(4, 1)), zs(of(2, 3), of(3, 5), of(4, 1))
	for _, x := range []struct {
		name       string
		a, b, want []api.Entry
	}{
		{"nothing and nothing", nil, zs(), nil},
		{"something and nothing", a, nil, a},
		{"nothing and something", nil, a, zs(of(1, -2), of(2, 3), of(4, -1))},
		{"some of both", a, b, zs(of(1, 2), of(2, -6), of(3, -5))},
		{"the other way round", b, a, zs(of(1, -2), of(2, 6), of(3, 5))},
		{"itself", a, a, nil},
		{"all of one ahead", zs(of(1, 1)), zs(of(2, 1)), zs(of(1, 1), of(2, -1))},
		{"all of one behind", zs(of(2, 1)), zs(of(1, 1)), zs(of(1, -1), of(2, 1))},
	} {
		got, err := Sub(x.a, x.b)
		expect(t, x.name, got, err, x.want, nil)
	}
}

func TestNeg(t *testing.T) {
	for _, x := range []struct {
		name    string
		a, want []api.Entry
	}{
		{"nothing", nil, nil},
		{"the empty list", zs(), nil},
		{"some", zs(api.Entry{Weight: 1}, of(1, 2), of(2, -3)), zs(api.Entry{Weight: -1}, of(1, -2), of(2, 3))},
		{"the bounds", zs(of(1, most), of(2, least+1)), zs(of(1, least+1), of(2, most))},
	} {
		got, err := Neg(x.a)
		expect(t, x.name, got, err, x.want, nil)
	}
	got, err := Neg(zs(of(1, least)))
	expect(t, "the least", got, err, nil, api.ErrOver)
	got, err = Neg(zs(of(1, 1), of(2, least), of(3, 1)))
	expect(t, "the least beside others", got, err, nil, api.ErrOver)
}

func TestSumsAtTheBounds(t *testing.T) {
	for _, v := range edges() {
		for _, w := range edges() {
			a, b := zOf(v), zOf(w)
			got, err := Add(a, b)
			want, wantErr := sumOf(ints(1), big.NewInt(v), big.NewInt(w))
			expect(t, "Add", got, err, want, wantErr)
			got, err = Sub(a, b)
			want, wantErr = sumOf(ints(1), big.NewInt(v), minus(w))
			expect(t, "Sub", got, err, want, wantErr)
		}
		got, err := Neg(zOf(v))
		want, wantErr := sumOf(ints(1), minus(v))
		expect(t, "Neg", got, err, want, wantErr)
	}
}

// zOf is the z-set of the row (1), w times.
func zOf(w int64) []api.Entry {
	if w == 0 {
		return nil
	}
	return zs(of(1, w))
}

func TestSumsTellOverOfAnyRow(t *testing.T) {
	for n := int64(1); n <= 3; n++ {
		a := zs(of(1, 1), of(2, 1), of(3, 1))
		a[n-1].Weight = most
		got, err := Add(a, zs(of(n, 1)))
		expect(t, "Add", got, err, nil, api.ErrOver)
		got, err = Sub(a, zs(of(n, -1)))
		expect(t, "Sub", got, err, nil, api.ErrOver)
		got, err = Sub(zs(of(0, 1), of(4, 1)), zs(of(n, least)))
		expect(t, "Sub of a row that is not there", got, err, nil, api.ErrOver)
	}
}

// allZsets are the z-sets of the rows (0) to (3) with weights from -1 to 1.
func allZsets() [][]api.Entry {
	l := [][]api.Entry{nil}
	for n := range int64(4) {
		for _, z := range slices.Clone(l) {
			l = append(l, append(slices.Clone(z), of(n, 1)), append(slices.Clone(z), of(n, -1)))
		}
	}
	return l
}

func TestSumsOfAllSmallZsets(t *testing.T) {
	weight := func(z []api.Entry, n int64) (w int64) {
		for _, e := range z {
			if e.Row[0].N == n {
				w += e.Weight
			}
		}
		return w
	}
	for _, a := range allZsets() {
		for _, b := range allZsets() {
			var sum, diff []api.Entry
			for n := range int64(4) {
				if w := weight(a, n) + weight(b, n); w != 0 {
					sum = append(sum, of(n, w))
				}
				if w := weight(a, n) - weight(b, n); w != 0 {
					diff = append(diff, of(n, w))
				}
			}
			got, err := Add(a, b)
			expect(t, "Add", got, err, sum, nil)
			got, err = Make(slices.Concat(b, a)...)
			expect(t, "Make", got, err, sum, nil)
			got, err = Sub(a, b)
			expect(t, "Sub", got, err, diff, nil)
			if Same(a, b) != (len(diff) == 0) {
				t.Errorf("Same(%v, %v): %v", a, b, Same(a, b))
			}
		}
	}
}

func TestGet(t *testing.T) {
	rows := inOrder()
	for size := range len(rows) + 1 {
		var z []api.Entry
		for i, r := range rows[:size] {
			z = append(z, api.Entry{Row: r, Weight: int64(2*i - 7)})
		}
		for i, r := range rows {
			want := int64(0)
			if i < size {
				want = int64(2*i - 7)
			}
			if got := Get(z, row.Copy(r)); got != want {
				t.Errorf("Get of %v among %d: %d, want %d", r, size, got, want)
			}
		}
	}
}

func TestGetOfNoRow(t *testing.T) {
	z := zs(of(1, most), of(3, least), api.Entry{Row: ints(3, 3), Weight: 5}, of(5, 1))
	for _, r := range []api.Row{nil, {}, ints(0), ints(2), ints(4), ints(6), ints(1, 1), ints(3, 2), ints(3, 3, 3), {value.Str("1")}, {{}}, {{Kind: api.Int, N: 1, S: "x"}}, {{Kind: 7}}, {{Kind: -1}}} {
		if got := Get(z, r); got != 0 {
			t.Errorf("Get of %v: %d", r, got)
		}
	}
	if Get(z, ints(1)) != most || Get(z, ints(3)) != least {
		t.Error("a weight at its bounds is not what it is")
	}
	if Get(nil, nil) != 0 || Get(zs(), ints(1)) != 0 {
		t.Error("something of nothing")
	}
	if Get(zs(api.Entry{Weight: 4}), api.Row{}) != 4 {
		t.Error("nil and the empty row are not the same")
	}
	if Get(z[:1], ints(3)) != 0 {
		t.Error("what lies behind the length is asked")
	}
}

func TestSame(t *testing.T) {
	a := zs(of(1, 2), of(2, -3), of(4, 1))
	if !Same(a, deepCopy(a)) || !Same(a, a) || !Same(nil, nil) || !Same(nil, zs()) {
		t.Error("the same is told to be another")
	}
	if !Same(zs(api.Entry{Weight: 1}), zs(api.Entry{Row: api.Row{}, Weight: 1})) {
		t.Error("nil and the empty row are not the same")
	}
	for i, b := range [][]api.Entry{
		nil,
		a[:2],
		a[1:],
		zs(of(1, 2), of(2, -3), of(4, 1), of(5, 1)),
		zs(of(1, 3), of(2, -3), of(4, 1)),
		zs(of(1, 2), of(2, 3), of(4, 1)),
		zs(of(1, 2), of(2, -3), of(4, 2)),
		zs(of(0, 2), of(2, -3), of(4, 1)),
		zs(of(1, 2), of(3, -3), of(4, 1)),
		zs(of(1, 2), of(2, -3), of(5, 1)),
		zs(of(1, 2), of(2, -3), api.Entry{Row: ints(4, 4), Weight: 1}),
		zs(of(1, 2), of(2, -3), api.Entry{Weight: 1}),
		zs(of(1, 2), of(2, -3), api.Entry{Row: api.Row{value.Str("4")}, Weight: 1}),
	} {
		if Same(a, b) || Same(b, a) {
			t.Errorf("%d: Same(%v, %v)", i, a, b)
		}
	}
}

func TestSameIsEntryByEntry(t *testing.T) {
	// These are no z-sets: what they come to together is not asked.
	a := zs(of(1, 1), of(2, 0), of(1, 1))
	if !Same(a, deepCopy(a)) {
		t.Error("the same list is told to be another")
	}
	if Same(a, zs(of(1, 2))) || Same(a, zs(of(2, 0), of(1, 1), of(1, 1))) || Same(zs(of(1, 0)), nil) {
		t.Error("another list is told to be the same")
	}
}

func TestCheck(t *testing.T) {
	var all []api.Entry
	for _, r := range inOrder() {
		all = append(all, api.Entry{Row: r, Weight: -1})
	}
	for i, z := range [][]api.Entry{
		nil, zs(), all, all[3:],
		zs(api.Entry{Weight: 1}), zs(of(1, most)), zs(of(1, least)),
		zs(of(1, 1), of(2, -1), of(10, 1)),
		zs(of(1, 1), api.Entry{Row: ints(1, 0), Weight: 1}, of(2, 1)),
		zs(of(2, 1), of(1, 0))[:1],
	} {
		if !Check(z) {
			t.Errorf("%d: a z-set is refused: %v", i, z)
		}
	}
	for i, z := range [][]api.Entry{
		zs(of(1, 0)),
		zs(api.Entry{}),
		zs(of(1, 0), of(2, 1)),
		zs(of(1, 1), of(2, 0), of(3, 1)),
		zs(of(1, 1), of(2, 0)),
		zs(of(1, 1), of(1, 1)),
		zs(of(1, 1), of(1, -1)),
		zs(of(1, 1), of(2, 1), of(2, 3)),
		zs(of(1, 1), of(2, 1), of(1, 1)),
		zs(of(2, 1), of(1, 1)),
		zs(of(1, 1), of(3, 1), of(2, 1)),
		zs(of(2, 1), of(10, 1), of(1, 1)),
		zs(of(1, 1), api.Entry{Weight: 1}),
		zs(api.Entry{Weight: 1}, api.Entry{Row: api.Row{}, Weight: 1}),
		zs(api.Entry{Row: ints(1, 0), Weight: 1}, of(1, 1)),
	} {
		if Check(z) {
			t.Errorf("%d: no z-set, but taken: %v", i, z)
		}
	}
}

// calls are those that hand out a list, of a and b.
func calls() map[string]func(a, b []api.Entry) ([]api.Entry, error) {
	return map[string]func(a, b []api.Entry) ([]api.Entry, error){
		"Make": func(a, b []api.Entry) ([]api.Entry, error) { return Make(a...) },
		"Add":  Add,
		"Sub":  Sub,
		"Neg":  func(a, b []api.Entry) ([]api.Entry, error) { return Neg(a) },
	}
}

func TestAnswersAreNewMemory(t *testing.T) {
	for name, call := range calls() {
		for _, b := range [][]api.Entry{nil, zs(of(2, 5), of(9, 5))} {
			a := zs(of(1, 1), of(2, 1), api.Entry{Row: ints(3, 3), Weight: 1})
			wasA, wasB := deepCopy(a), deepCopy(b)
			one, err := call(a, b)
			two, _ := call(a, b)
			if err != nil || len(one) < len(a) {
				t.Fatalf("%s: %v, %v", name, one, err)
			}
			was := deepCopy(two)
			for i := range one {
				last := deepCopy(one)
				_ = append(one[i].Row, value.Of(77))
				if !alike(one, last) {
					t.Errorf("%s: a row shows what was appended to another", name)
				}
				for k := range one[i].Row {
					one[i].Row[k] = value.Of(77)
				}
				if last[i].Row = one[i].Row; !alike(one, last) {
					t.Errorf("%s: a row shows what was written into another", name)
				}
			}
			one[0].Weight = 77
			_ = append(one, of(77, 77))
			_ = append(one[:0], of(77, 77))
			if !alike(a, wasA) || !alike(b, wasB) {
				t.Errorf("%s: what was handed in shows what was written into the answer", name)
			}
			if !alike(two, was) {
				t.Errorf("%s: an answer shows what was written into another", name)
			}
			a[0].Weight, a[0].Row[0] = 78, value.Of(78)
			if !alike(two, was) {
				t.Errorf("%s: the answer shows what was written into what was handed in", name)
			}
		}
	}
}

func TestWhatIsHandedInStays(t *testing.T) {
	back := zs(of(1, 1), of(2, 1), of(3, most), of(4, 1))
	other := zs(of(2, 1), of(3, -most), of(3, 1))
	wasBack, wasOther := deepCopy(back), deepCopy(other)
	for name, call := range calls() {
		got, err := call(back[:2], other[:1])
		if err != nil || len(got) > 2 {
			t.Errorf("%s reads behind the length: %v, %v", name, got, err)
		}
		if _, err := call(back, other[:2]); name == "Sub" && err != api.ErrOver {
			t.Errorf("%s: %v", name, err)
		}
		if !alike(back, wasBack) || !alike(other, wasOther) {
			t.Errorf("%s changes what was handed in", name)
		}
	}
	mixed := zs(of(3, 1), of(1, 1), of(2, 1), of(1, -1), of(0, 1))
	was := deepCopy(mixed)
	if _, err := Make(mixed[:4]...); err != nil || !alike(mixed, was) {
		t.Errorf("Make changes what was handed in: %v, %v", mixed, err)
	}
}

func TestRowsBehindTheirLength(t *testing.T) {
	long := ints(1, 2, 3)
	z := zs(api.Entry{Row: long[:1], Weight: 1}, api.Entry{Row: long[:2], Weight: 1})
	for name, call := range calls() {
		got, err := call(z, nil)
		if err != nil || len(got) != 2 || len(got[0].Row) != 1 || len(got[1].Row) != 2 {
			t.Fatalf("%s: %v, %v", name, got, err)
		}
		_ = append(got[0].Row, value.Of(77))
		_ = append(got[1].Row, value.Of(77))
		if !slices.Equal(long, ints(1, 2, 3)) || got[1].Row[1] != value.Of(2) {
			t.Errorf("%s: what was appended to a row is seen elsewhere", name)
		}
	}
	if Get(z, long[:1]) != 1 || Get(z, long) != 0 || !Check(z) {
		t.Error("what lies behind a row's length is asked")
	}
}

// No more is promised of lists that are no z-sets than that a call ends and does not panic.
func TestCallsEndOfNoZsets(t *testing.T) {
	wrong := [][]api.Entry{
		zs(of(2, 1), of(1, 1), of(2, 1)),
		zs(of(1, 0), api.Entry{}, api.Entry{}),
		zs(of(1, most), of(1, most), of(1, least)),
		zs(api.Entry{Row: api.Row{{Kind: 7, N: 1, S: "x"}}, Weight: least}, of(-1, 1)),
	}
	for _, a := range wrong {
		for _, b := range append(wrong, nil, zs(of(1, 1))) {
			for name, call := range calls() {
				for _, pair := range [][2][]api.Entry{{a, b}, {b, a}} {
					if got, err := call(pair[0], pair[1]); err != nil && (err != api.ErrOver || len(got) != 0) {
						t.Errorf("%s: %v, %v", name, got, err)
					}
				}
			}
			Same(a, b)
		}
		Get(a, ints(1))
		if Check(a) {
			t.Errorf("Check(%v)", a)
		}
	}
}

func TestManyEntries(t *testing.T) {
	const many = 20000
	var l []api.Entry
	for i := range int64(many) {
		l = append(l, of(i*7919%many, 1), of(i%(many/2), 2))
	}
	z, err := Make(l...)
	if err != nil || len(z) != many || !Check(z) {
		t.Fatalf("Make: %d entries, %v", len(z), err)
	}
	if Get(z, ints(0)) != 5 || Get(z, ints(many/2-1)) != 5 || Get(z, ints(many/2)) != 1 || Get(z, ints(many)) != 0 {
		t.Error("Make: weights")
	}
	twice, err := Add(z, z)
	if err != nil || len(twice) != many || Get(twice, ints(0)) != 10 {
		t.Errorf("Add: %d entries, %v", len(twice), err)
	}
	back, err := Sub(twice, z)
	if err != nil || !Same(back, z) {
		t.Errorf("Sub: %d entries, %v", len(back), err)
	}
}
