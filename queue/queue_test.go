package queue

import (
	"slices"
	"testing"

	"belvedere/api"
	"belvedere/value"
)

// list is a z-set of the rows (n), each once.
func list(l ...int64) []api.Entry {
	var z []api.Entry
	for _, n := range l {
		z = append(z, api.Entry{Row: api.Row{value.Of(n)}, Weight: 1})
	}
	return z
}

// rows are the numbers of a list's rows.
func rows(z []api.Entry) []int64 {
	var l []int64
	for _, e := range z {
		l = append(l, e.Row[0].N)
	}
	return l
}

// drain are the rows of a queue, skipped n by n.
func drain(q Queue, n int) []int64 {
	var l []int64
	for !q.Empty() {
		many := min(n, len(q.First()))
		l = append(l, rows(q.First()[:many])...)
		q.Skip(many)
	}
	return l
}

func TestQueue(t *testing.T) {
	for _, x := range []struct {
		name string
		l    [][]api.Entry
		want []int64
	}{
		{"no list", nil, nil},
		{"empty lists", [][]api.Entry{nil, {}}, nil},
		{"one list", [][]api.Entry{list(1, 3)}, []int64{1, 3}},
		{"one list among empty ones", [][]api.Entry{nil, list(1, 3), {}}, []int64{1, 3}},
		{"one behind the other", [][]api.Entry{list(3, 4), list(1, 2)}, []int64{1, 2, 3, 4}},
		{"each between the other's", [][]api.Entry{list(1, 4, 5), list(2, 6), list(0, 3)}, []int64{0, 1, 2, 3, 4, 5, 6}},
		{"rows of several", [][]api.Entry{list(1, 2), list(2), list(1, 2, 3)}, []int64{1, 1, 2, 2, 2, 3}},
	} {
		if got := drain(Of(x.l), 1); !slices.Equal(got, x.want) {
			t.Errorf("%s: %v, want %v", x.name, got, x.want)
		}
	}
}

func TestSkipOfSeveral(t *testing.T) {
	l := [][]api.Entry{list(5, 6, 7), list(1, 2, 8), list(3, 4)}
	for n, want := range map[int][]int64{
		2: {1, 2, 3, 4, 5, 6, 7, 8},
		3: {1, 2, 8, 3, 4, 5, 6, 7},
	} {
		if got := drain(Of(l), n); !slices.Equal(got, want) {
			t.Errorf("%d at once: %v, want %v", n, got, want)
		}
	}
}

func TestWhatIsHandedInStays(t *testing.T) {
	l := [][]api.Entry{list(5, 6), nil, list(1, 9), list(3)}
	drain(Of(l), 1)
	for i, want := range [][]int64{{5, 6}, nil, {1, 9}, {3}} {
		if got := rows(l[i]); !slices.Equal(got, want) {
			t.Errorf("list %d: %v, want %v", i, got, want)
		}
	}
}
