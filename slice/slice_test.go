package slice

import (
	"math"
	"slices"
	"testing"

	"belvedere/api"
	"belvedere/row"
	"belvedere/value"
)

// ints is a row of Ints.
func ints(l ...int64) api.Row {
	var r api.Row
	for _, n := range l {
		r = append(r, value.Of(n))
	}
	return r
}

// odds are the rows (1), (3), (5), (7), with weights about 0 and at the bounds.
func odds() []api.Entry {
	return []api.Entry{
		{Row: ints(1), Weight: 2},
		{Row: ints(3), Weight: -3},
		{Row: ints(5), Weight: math.MaxInt64},
		{Row: ints(7), Weight: math.MinInt64},
	}
}

// inOrder are rows in row.Compare's order: of no values, of several Kinds, one the beginning of another.
func inOrder() []api.Row {
	return []api.Row{
		nil,
		{{}},
		{{}, {}},
		ints(math.MinInt64),
		ints(1),
		{value.Of(1), {}},
		ints(1, 10),
		{value.Of(1), value.Str("a")},
		ints(2),
		ints(10),
		{value.Str("")},
		{value.Str("a"), value.Of(9)},
		{value.Str("aa")},
		{value.Is(false)},
		{value.Is(true), value.Of(0)},
	}
}

// alike holds entries against each other value by value.
func alike(a, b []api.Entry) bool {
	return slices.EqualFunc(a, b, func(x, y api.Entry) bool {
		return x.Weight == y.Weight && slices.Equal(x.Row, y.Row)
	})
}

// deepCopy is what l was, whatever a call does to it.
func deepCopy(l []api.Entry) []api.Entry {
	var copied []api.Entry
	for _, e := range l {
		copied = append(copied, api.Entry{Row: slices.Clone(e.Row), Weight: e.Weight})
	}
	return copied
}

// expect holds an answer against what it should be.
func expect(t *testing.T, name string, got, want []api.Entry) {
	t.Helper()
	if !alike(got, want) {
		t.Errorf("%s: %v, want %v", name, got, want)
	}
}

func TestAfter(t *testing.T) {
	z := odds()
	for _, x := range []struct {
		name string
		r    api.Row
		any  bool
		n    int
		want []api.Entry
	}{
		{"a row that is there", ints(3), true, 9, z[2:]},
		{"a row that is not there", ints(4), true, 9, z[2:]},
		{"the first n of those behind a row that is there", ints(1), true, 2, z[1:3]},
		{"the first n of those behind a row that is not there", ints(2), true, 2, z[1:3]},
		{"a row ahead of all", ints(0), true, 9, z},
		{"a row ahead of all, the first n", ints(0), true, 3, z[:3]},
		{"the first row", ints(1), true, 9, z[1:]},
		{"the last row", ints(7), true, 9, nil},
		{"a row behind all", ints(8), true, 9, nil},
		{"the empty row is ahead of all", nil, true, 9, z},
		{"a row that goes on is behind its beginning", ints(3, 0), true, 9, z[2:]},
		{"n 0", ints(1), true, 0, nil},
		{"n 1", ints(1), true, 1, z[1:2]},
		{"n as many as there are", ints(1), true, 3, z[1:]},
		{"n one less", ints(1), true, 2, z[1:3]},
		{"n one more", ints(1), true, 4, z[1:]},
		{"n -1", ints(1), true, -1, nil},
		{"n far below 0", ints(1), true, math.MinInt, nil},
		{"n far beyond", ints(1), true, math.MaxInt, z[1:]},
		{"any false", nil, false, 9, z},
		{"any false, the first n", nil, false, 2, z[:2]},
		{"any false, a row that is there", ints(3), false, 2, z[:2]},
		{"any false, a row behind all", ints(8), false, 9, z},
		{"any false, n 0", ints(3), false, 0, nil},
		{"any false, n below 0", ints(3), false, -1, nil},
		{"any false, n far below 0", nil, false, math.MinInt, nil},
		{"any false, n far beyond", nil, false, math.MaxInt, z},
	} {
		expect(t, x.name, After(z, x.r, x.any, x.n), x.want)
	}
}

func TestUpto(t *testing.T) {
	z := odds()
	for _, x := range []struct {
		name string
		r    api.Row
		any  bool
		want []api.Entry
	}{
		{"a row that is there", ints(3), true, z[:2]},
		{"a row that is not there", ints(4), true, z[:2]},
		{"a row ahead of all", ints(0), true, nil},
		{"the first row", ints(1), true, z[:1]},
		{"the last row", ints(7), true, z},
		{"a row just ahead of the last", ints(6), true, z[:3]},
		{"a row behind all", ints(8), true, z},
		{"the empty row is ahead of all", nil, true, nil},
		{"a row that goes on is behind its beginning", ints(3, 0), true, z[:2]},
		{"any false", nil, false, nil},
		{"any false, a row that is there", ints(3), false, nil},
		{"any false, a row behind all", ints(8), false, nil},
	} {
		expect(t, x.name, Upto(z, x.r, x.any), x.want)
	}
}

func TestCount(t *testing.T) {
	z := odds()
	for _, x := range []struct {
		name string
		r    api.Row
		any  bool
		want int
	}{
		{"a row that is there", ints(3), true, 2},
		{"a row that is not there", ints(4), true, 2},
		{"a row ahead of all", ints(0), true, 4},
		{"the first row", ints(1), true, 3},
		{"the last row", ints(7), true, 0},
		{"a row just ahead of the last", ints(6), true, 1},
		{"a row behind all", ints(8), true, 0},
		{"the empty row is ahead of all", nil, true, 4},
		{"a row that goes on is behind its beginning", ints(3, 0), true, 2},
		{"any false", nil, false, 4},
		{"any false, a row that is there", ints(3), false, 4},
		{"any false, a row behind all", ints(8), false, 4},
	} {
		if got := Count(z, x.r, x.any); got != x.want {
			t.Errorf("%s: %d, want %d", x.name, got, x.want)
		}
	}
}

func TestRange(t *testing.T) {
	z := odds()
	for _, x := range []struct {
		name     string
		from, to api.Row
		want     []api.Entry
	}{
		{"rows that are there", ints(3), ints(7), z[1:3]},
		{"rows that are not there", ints(2), ints(6), z[1:3]},
		{"from is there, to is not", ints(3), ints(6), z[1:3]},
		{"from is not there, to is", ints(2), ints(7), z[1:3]},
		{"one row", ints(3), ints(5), z[1:2]},
		{"between two rows", ints(4), ints(5), nil},
		{"within two rows", ints(3, 0), ints(4), nil},
		{"from the first on", ints(1), ints(4), z[:2]},
		{"from ahead of all", ints(0), ints(4), z[:2]},
		{"from the empty row", nil, ints(4), z[:2]},
		{"up to the last", ints(4), ints(7), z[2:3]},
		{"up to behind all", ints(4), ints(8), z[2:]},
		{"all", nil, ints(8), z},
		{"ahead of all", nil, ints(1), nil},
		{"behind all", ints(8), ints(9), nil},
		{"the last alone", ints(7), ints(7, 0), z[3:]},
		{"from is to, there", ints(3), ints(3), nil},
		{"from is to, not there", ints(4), ints(4), nil},
		{"from is to, the empty row", nil, api.Row{}, nil},
		{"from behind to, both there", ints(7), ints(1), nil},
		{"from behind to, none there", ints(6), ints(2), nil},
		{"from behind to, at the ends", ints(8), nil, nil},
		{"up to the empty row", nil, nil, nil},
		{"up to the empty row from a row", ints(3), nil, nil},
	} {
		expect(t, x.name, Range(z, x.from, x.to), x.want)
	}
}

func TestPartsOfNothing(t *testing.T) {
	for _, z := range [][]api.Entry{nil, {}, odds()[:0]} {
		for _, r := range []api.Row{nil, {}, ints(3)} {
			for _, any := range []bool{false, true} {
				expect(t, "After", After(z, r, any, 5), nil)
				expect(t, "Upto", Upto(z, r, any), nil)
				if got := Count(z, r, any); got != 0 {
					t.Errorf("Count: %d", got)
				}
			}
			expect(t, "Range", Range(z, r, ints(9)), nil)
			expect(t, "Range back", Range(z, ints(9), r), nil)
		}
	}
}

// chosen is z's entries whose rows are behind r (side 1), at r (0), ahead of it (-1), asked one by one.
func chosen(z []api.Entry, r api.Row, sides ...int) []api.Entry {
	var l []api.Entry
	for _, e := range z {
		if slices.Contains(sides, row.Compare(e.Row, r)) {
			l = append(l, e)
		}
	}
	return l
}

func TestPartsOfManyKindsOfRows(t *testing.T) {
	rows := inOrder()
	for skip := range 4 { // so that each row is there once, and once is not
		var z []api.Entry
		for i, r := range rows {
			if i%4 != skip {
				z = append(z, api.Entry{Row: r, Weight: int64(2*i - 7)})
			}
		}
		for _, r := range rows {
			behind := chosen(z, r, 1)
			expect(t, "Upto "+row.Show(r), Upto(z, row.Copy(r), true), chosen(z, r, -1, 0))
			if got := Count(z, row.Copy(r), true); got != len(behind) {
				t.Errorf("Count %s: %d, want %d", row.Show(r), got, len(behind))
			}
			for n := range len(z) + 2 {
				expect(t, "After "+row.Show(r), After(z, row.Copy(r), true, n), behind[:min(n, len(behind))])
			}
			for _, to := range rows {
				expect(t, "Range "+row.Show(r)+row.Show(to), Range(z, row.Copy(r), row.Copy(to)), chosen(chosen(z, r, 0, 1), to, -1))
			}
		}
	}
}

func TestTheEmptyRowIsARow(t *testing.T) {
	z := []api.Entry{{Weight: 4}, {Row: ints(1), Weight: 1}}
	for _, r := range []api.Row{nil, {}} {
		expect(t, "After", After(z, r, true, 9), z[1:])
		expect(t, "After, any false", After(z, r, false, 9), z)
		expect(t, "Upto", Upto(z, r, true), z[:1])
		expect(t, "Upto, any false", Upto(z, r, false), nil)
		expect(t, "Range", Range(z, r, ints(1)), z[:1])
		if Count(z, r, true) != 1 || Count(z, r, false) != 2 {
			t.Error("Count")
		}
	}
}

// calls are those that hand out a list, asked so that each answers all of z, if its rows are from (0) on and ahead of (99).
func calls() map[string]func(z []api.Entry) []api.Entry {
	return map[string]func(z []api.Entry) []api.Entry{
		"After":            func(z []api.Entry) []api.Entry { return After(z, ints(0), true, 9) },
		"After, any false": func(z []api.Entry) []api.Entry { return After(z, nil, false, 9) },
		"Upto":             func(z []api.Entry) []api.Entry { return Upto(z, ints(99), true) },
		"Range":            func(z []api.Entry) []api.Entry { return Range(z, ints(0), ints(99)) },
	}
}

func TestAnswersAreNewMemory(t *testing.T) {
	for name, call := range calls() {
		z := odds()
		one, two := call(z), call(z)
		expect(t, name, one, odds())
		for i := range one {
			was := deepCopy(one)
			_ = append(one[i].Row, value.Of(77))
			expect(t, name+": appended to a row", one, was)
			one[i].Row[0] = value.Of(77)
			was[i].Row[0] = value.Of(77)
			expect(t, name+": written into a row", one, was)
			one[i].Weight = 77
		}
		_ = append(one[:1], api.Entry{Weight: 78})
		_ = append(one, api.Entry{Weight: 78})
		expect(t, name+": what was handed in", z, odds())
		expect(t, name+": another answer", two, odds())
		z[0].Row[0], z[1].Weight = value.Of(79), 79
		expect(t, name+": an answer, when what was handed in changes", two, odds())
	}
}

func TestEmptyAnswersAreNewMemory(t *testing.T) {
	z := odds()
	for _, none := range [][]api.Entry{
		After(z, ints(1), true, 0), After(z, nil, false, -1), After(z, ints(9), true, 9),
		Upto(z, ints(0), true), Upto(z, ints(9), false),
		Range(z, ints(3), ints(3)), Range(z, ints(9), ints(1)),
	} {
		_ = append(none, api.Entry{Weight: 77})
	}
	expect(t, "what was handed in", z, odds())
}

func TestPartsHaveNoSpareRoomOfOthers(t *testing.T) {
	z := odds()
	first, rest := Upto(z, ints(3), true), After(z, ints(3), true, 1)
	middle := Range(z, ints(3), ints(7))
	for _, part := range [][]api.Entry{first, rest, middle} {
		_ = append(part, api.Entry{Weight: 77}, api.Entry{Weight: 77})
	}
	expect(t, "what was handed in", z, odds())
	expect(t, "Upto", first, z[:2])
	expect(t, "After", rest, z[2:3])
	expect(t, "Range", middle, z[1:3])
}

func TestWhatLiesBehindTheLength(t *testing.T) {
	back := odds()
	for name, call := range calls() {
		expect(t, name, call(back[:2]), back[:2])
		expect(t, name+": what was handed in", back, odds())
	}
	if Count(back[:2], ints(1), true) != 1 || Count(back[:2], nil, false) != 2 {
		t.Error("Count asks what lies behind the length")
	}
	long := ints(1, 2, 3)
	z := []api.Entry{{Row: long[:1], Weight: 1}, {Row: long[:2], Weight: 1}}
	for name, call := range calls() {
		for _, e := range call(z) {
			_ = append(e.Row, value.Of(77))
		}
		if !slices.Equal(long, ints(1, 2, 3)) {
			t.Errorf("%s: what lies behind a row's length is written", name)
		}
	}
	if Count(z, long[:1], true) != 1 || Count(z, long, true) != 0 {
		t.Error("Count asks what lies behind a row's length")
	}
}

func TestRowsOfNoRightValues(t *testing.T) {
	z := odds()
	first, last := api.Row{{Kind: -1, N: 9, S: "z"}}, api.Row{{Kind: 7}}
	within := api.Row{{Kind: api.Int, N: 3, S: "x"}}
	expect(t, "After first", After(z, first, true, 9), z)
	expect(t, "After last", After(z, last, true, 9), nil)
	expect(t, "After within", After(z, within, true, 9), z[2:])
	expect(t, "Upto first", Upto(z, first, true), nil)
	expect(t, "Upto last", Upto(z, last, true), z)
	expect(t, "Upto within", Upto(z, within, true), z[:2])
	expect(t, "Range", Range(z, within, last), z[2:])
	expect(t, "Range back", Range(z, last, first), nil)
	if Count(z, first, true) != 4 || Count(z, last, true) != 0 || Count(z, within, true) != 2 {
		t.Error("Count")
	}
}

// No more is promised of lists that are no z-sets than that a call ends and does not panic.
func TestCallsEndOfNoZsets(t *testing.T) {
	for _, z := range [][]api.Entry{
		{{Row: ints(7)}, {Row: ints(1)}, {Row: ints(5)}, {Row: ints(3)}, {Row: ints(1)}},
		{{}, {}, {}},
		{{Row: ints(1), Weight: 1}, {Row: ints(1), Weight: -1}, {Weight: 1}},
		{{Row: api.Row{{Kind: 7, S: "x"}}, Weight: 1}, {Row: api.Row{{Kind: -7, N: 1}}, Weight: 1}},
	} {
		was := deepCopy(z)
		for _, r := range append(inOrder(), ints(3), ints(6), ints(8)) {
			for _, to := range append(inOrder(), ints(3), ints(6), ints(8)) {
				Range(z, r, to)
			}
			for _, any := range []bool{false, true} {
				for n := -1; n <= len(z)+1; n++ {
					After(z, r, any, n)
				}
				Upto(z, r, any)
				Count(z, r, any)
			}
		}
		expect(t, "what was handed in", z, was)
	}
}

func TestPartsOfManyEntries(t *testing.T) {
	const many = 1 << 20
	z := make([]api.Entry, many)
	values := make(api.Row, many)
	for i := range z {
		values[i] = value.Of(int64(2 * i))
		z[i] = api.Entry{Row: values[i : i+1], Weight: 1}
	}
	// A call that went over all entries would be gone for minutes here.
	for i := 0; i < many; i += 7 {
		there, not := ints(int64(2*i)), ints(int64(2*i+1))
		if Count(z, there, true) != many-i-1 || Count(z, not, true) != many-i-1 {
			t.Fatalf("Count at %d", i)
		}
		next := After(z, there, true, 1)
		if want := z[i+1 : min(i+2, many)]; !alike(next, want) || !alike(After(z, not, true, 1), want) {
			t.Fatalf("After at %d: %v", i, next)
		}
		if got := Range(z, there, not); !alike(got, z[i:i+1]) {
			t.Fatalf("Range at %d: %v", i, got)
		}
	}
	expect(t, "Upto", Upto(z, ints(many), true), z[:many/2+1])
}
