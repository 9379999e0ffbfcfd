package row

import (
	"math"
	"slices"
	"strings"
	"testing"

	"belvedere/api"
	"belvedere/value"
)

// rowsInOrder are in the order that Compare promises.
func rowsInOrder() []api.Row {
	null := api.Value{}
	return []api.Row{
		nil,
		{null},
		{null, null},
		{null, value.Is(true)},
		{value.Of(math.MinInt64)},
		{value.Of(-2), value.Str("z"), value.Is(true)},
		{value.Of(-1)},
		{value.Of(1)},
		{value.Of(1), null},
		{value.Of(1), null, null},
		{value.Of(1), value.Of(2)},
		{value.Of(1), value.Of(10)},
		{value.Of(1), value.Str("")},
		{value.Of(1), value.Str("a")},
		{value.Of(1), value.Str("a"), value.Of(0)},
		{value.Of(1), value.Str("b")},
		{value.Of(2)},
		{value.Of(math.MaxInt64)},
		{value.Str("")},
		{value.Str("a"), value.Of(9)},
		{value.Str("aa")},
		{value.Is(false), value.Is(true)},
		{value.Is(true), value.Is(false)},
	}
}

func TestCompareOrder(t *testing.T) {
	order := rowsInOrder()
	for i, a := range order {
		for j, b := range order {
			want := 0
			if i < j {
				want = -1
			} else if i > j {
				want = 1
			}
			if got := Compare(a, Copy(b)); got != want {
				t.Errorf("Compare(%v, %v): %d, want %d", a, b, got, want)
			}
		}
	}
}

func TestCompareOfNilAndEmpty(t *testing.T) {
	if Compare(nil, api.Row{}) != 0 || Compare(api.Row{}, nil) != 0 {
		t.Error("nil and the empty row are not the same")
	}
}

func TestCompareAsksWrongValuesToo(t *testing.T) {
	order := []api.Row{
		{{Kind: -1, N: 9, S: "z"}},
		{{Kind: api.Null, S: "x"}},
		{{Kind: api.Int, N: 1, S: "a"}, value.Of(9)},
		{{Kind: api.Int, N: 1, S: "b"}, value.Of(0)},
		{{Kind: 7}},
	}
	for i := 1; i < len(order); i++ {
		if Compare(order[i-1], order[i]) != -1 || Compare(order[i], order[i-1]) != 1 {
			t.Errorf("%v is not less than %v", order[i-1], order[i])
		}
	}
}

func TestPick(t *testing.T) {
	r := api.Row{value.Of(1), value.Str("a"), {}, value.Is(true)}
	for _, x := range []struct {
		cols []int
		want api.Row
	}{
		{nil, nil},
		{[]int{}, nil},
		{[]int{0}, api.Row{r[0]}},
		{[]int{3}, api.Row{r[3]}},
		{[]int{0, 1, 2, 3}, r},
		{[]int{3, 2, 1, 0}, api.Row{r[3], r[2], r[1], r[0]}},
		{[]int{1, 1, 0, 1, 1, 2}, api.Row{r[1], r[1], r[0], r[1], r[1], r[2]}},
	} {
		got, ok := Pick(r, x.cols...)
		if !ok || !slices.Equal(got, x.want) {
			t.Errorf("Pick(r, %v): %v, %v", x.cols, got, ok)
		}
	}
}

func TestPickOfNoColumn(t *testing.T) {
	r := api.Row{value.Of(1), value.Str("a")}
	for _, cols := range [][]int{{-1}, {2}, {0, 2}, {2, 0}, {0, 1, -1}, {math.MinInt}, {math.MaxInt}} {
		if got, ok := Pick(r, cols...); ok || len(got) != 0 {
			t.Errorf("Pick(r, %v): %v, %v", cols, got, ok)
		}
	}
	// What lies behind the length is no column.
	if got, ok := Pick(r[:1], 1); ok || len(got) != 0 {
		t.Errorf("a column behind the length: %v, %v", got, ok)
	}
	if got, ok := Pick(nil, 0); ok || len(got) != 0 {
		t.Errorf("a column of nothing: %v, %v", got, ok)
	}
	if got, ok := Pick(nil); !ok || len(got) != 0 {
		t.Errorf("no column of nothing: %v, %v", got, ok)
	}
}

func TestPickIsNewMemory(t *testing.T) {
	r := api.Row{value.Of(1), value.Of(2), value.Of(3)}
	cols := []int{0, 1}
	one, _ := Pick(r, cols...)
	two, _ := Pick(r, cols...)
	none, _ := Pick(r)
	one[0] = value.Of(9)
	_ = append(one, value.Of(9))
	_ = append(none, value.Of(9))
	if want := (api.Row{value.Of(1), value.Of(2), value.Of(3)}); !slices.Equal(r, want) {
		t.Errorf("the row shows what was written into its pick: %v", r)
	}
	if !slices.Equal(two, r[:2]) {
		t.Errorf("a pick shows what was written into another: %v", two)
	}
	if !slices.Equal(cols, []int{0, 1}) {
		t.Errorf("the columns were changed: %v", cols)
	}
}

func TestShow(t *testing.T) {
	for _, x := range []struct {
		r    api.Row
		want string
	}{
		{nil, "()"},
		{api.Row{}, "()"},
		{api.Row{{}}, "(null)"},
		{api.Row{value.Of(-1)}, "(-1)"},
		{api.Row{value.Of(1), value.Str("a")}, "(1, 'a')"},
		{api.Row{value.Str("it's"), {}, value.Is(false), value.Is(true), value.Of(math.MinInt64)}, "('it''s', null, false, true, -9223372036854775808)"},
		{api.Row{value.Str(", "), value.Str("")}, "(', ', '')"},
	} {
		if got := Show(x.r); got != x.want {
			t.Errorf("Show(%v): %q, want %q", x.r, got, x.want)
		}
	}
}

func TestShowOfManyValues(t *testing.T) {
	r := make(api.Row, 100)
	if got, want := Show(r), "(null"+strings.Repeat(", null", 99)+")"; got != want {
		t.Errorf("Show: %q", got)
	}
}

func TestCheckOfRightRows(t *testing.T) {
	full := value.Str(strings.Repeat("z", api.MaxText))
	for _, x := range []struct {
		r    api.Row
		cols []int
	}{
		{nil, nil},
		{api.Row{}, nil},
		{nil, []int{}},
		{api.Row{value.Of(1)}, []int{api.Int}},
		{api.Row{full}, []int{api.Text}},
		{api.Row{value.Is(true), value.Is(false)}, []int{api.Bool, api.Bool}},
		{api.Row{value.Of(1), value.Str("a"), value.Is(true)}, []int{api.Int, api.Text, api.Bool}},
		{api.Row{{}, {}, {}, {}}, []int{api.Int, api.Text, api.Bool, api.Null}},
		{api.Row{{}, value.Str("a")}, []int{api.Int, api.Text}},
		{make(api.Row, api.MaxCols+1), make([]int, api.MaxCols+1)},
	} {
		if err := Check(x.r, x.cols); err != nil {
			t.Errorf("Check(%v, %v): %v", x.r, x.cols, err)
		}
	}
}

func TestCheckOfArity(t *testing.T) {
	wrong := api.Value{Kind: 7}
	for _, x := range []struct {
		r    api.Row
		cols []int
	}{
		{nil, []int{api.Int}},
		{api.Row{value.Of(1)}, nil},
		{api.Row{value.Of(1)}, []int{api.Int, api.Int}},
		{api.Row{value.Of(1), value.Of(2)}, []int{api.Int}},
		{api.Row{wrong, value.Of(2)}, []int{api.Text}},
		{api.Row{value.Of(1)}, []int{api.Text, api.Text}},
		{api.Row{wrong}, nil},
		{api.Row{value.Of(1), value.Of(2)}[:1], []int{api.Int, api.Int}},
		{api.Row{value.Of(1), value.Of(2)}, []int{api.Int, api.Int}[:1]},
	} {
		if err := Check(x.r, x.cols); err != api.ErrArity {
			t.Errorf("Check(%v, %v): %v", x.r, x.cols, err)
		}
	}
}

func TestCheckOfType(t *testing.T) {
	for _, x := range []struct {
		v   api.Value
		col int
	}{
		{value.Of(1), api.Text}, {value.Of(1), api.Bool}, {value.Of(1), api.Null},
		{value.Str("a"), api.Int}, {value.Str("a"), api.Bool}, {value.Str(""), api.Null},
		{value.Is(true), api.Int}, {value.Is(true), api.Text}, {value.Is(false), api.Null},
		{value.Of(1), 7}, {value.Of(1), -1}, {value.Of(1), math.MaxInt},
		{api.Value{Kind: 7}, 7}, {api.Value{Kind: -1}, -1}, {api.Value{Kind: 4}, api.Int},
		{api.Value{N: 1}, api.Int}, {api.Value{S: "x"}, api.Text}, {api.Value{N: 1}, api.Null},
		{api.Value{Kind: api.Int, S: "x"}, api.Int},
		{api.Value{Kind: api.Text, N: 1}, api.Text},
		{api.Value{Kind: api.Bool, N: 2}, api.Bool},
		{value.Str(strings.Repeat("z", api.MaxText+1)), api.Text},
	} {
		if err := Check(api.Row{x.v}, []int{x.col}); err != api.ErrType {
			t.Errorf("Check(%v, %v): %v", x.v, x.col, err)
		}
		if err := Check(api.Row{value.Of(1), {}, x.v}, []int{api.Int, api.Text, x.col}); err != api.ErrType {
			t.Errorf("Check with %v, %v last: %v", x.v, x.col, err)
		}
		if err := Check(api.Row{x.v, value.Of(1)}, []int{x.col, api.Int}); err != api.ErrType {
			t.Errorf("Check with %v, %v first: %v", x.v, x.col, err)
		}
	}
}

func TestCopy(t *testing.T) {
	for _, r := range rowsInOrder() {
		if got := Copy(r); !slices.Equal(got, r) {
			t.Errorf("Copy(%v): %v", r, got)
		}
	}
	wrong := api.Row{{Kind: 7, N: 1, S: "x"}}
	if got := Copy(wrong); !slices.Equal(got, wrong) {
		t.Errorf("Copy(%v): %v", wrong, got)
	}
}

func TestCopyIsNewMemory(t *testing.T) {
	back := api.Row{value.Of(1), value.Of(2), value.Of(3)}
	r := back[:2]
	one, two, none := Copy(r), Copy(r), Copy(back[:0])
	one[0] = value.Of(9)
	_ = append(one, value.Of(9))
	_ = append(none, value.Of(9))
	if want := (api.Row{value.Of(1), value.Of(2), value.Of(3)}); !slices.Equal(back, want) {
		t.Errorf("the row shows what was written into its copy: %v", back)
	}
	if !slices.Equal(two, r) {
		t.Errorf("a copy shows what was written into another: %v", two)
	}
	r[1] = value.Of(8)
	if two[1] != value.Of(2) {
		t.Errorf("a copy shows what was written into its row: %v", two)
	}
}
