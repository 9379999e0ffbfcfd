package join

import (
	"cmp"
	"container/heap"
	"slices"
	"sort"

	"belvedere/api"
	"belvedere/row"
	"belvedere/sum"
)

// line is an entry of a with those of b that fit it and are still to come, in the order of their rows; never none.
type line struct {
	a api.Entry
	b []api.Entry
}

// next is the line's row that is next.
func (l line) next() joined { return joined{l.a.Row, l.b[0].Row} }

// lines are a heap of container/heap: the one whose row is next of all comes first. Rows that are alike may come of several lines, as rows are of several lengths.
type lines []line

func (l lines) Len() int           { return len(l) }
func (l lines) Less(i, j int) bool { return l[i].next().compare(l[j].next()) < 0 }
func (l lines) Swap(i, j int)      { l[i], l[j] = l[j], l[i] }

// Push is for container/heap alone.
func (l *lines) Push(x any) { *l = append(*l, x.(line)) }

// Pop is for container/heap alone.
func (l *lines) Pop() any {
	last := len(*l) - 1
	x := (*l)[last]
	*l = (*l)[:last]
	return x
}

// linesOf are the lines of all rows of a that fit one of b.
func linesOf(on [][2]int, a, b []api.Entry) lines {
	sorted := byKey(on, b)
	var l lines
	for _, e := range a {
		if !hasKey(on, ofA, e.Row) {
			continue
		}
		if fit := fitting(on, e.Row, sorted); len(fit) > 0 {
			l = append(l, line{e, fit})
		}
	}
	heap.Init(&l)
	return l
}

// byKey is those of b that have all of the pairs' columns, in their order, and by row where these are alike.
func byKey(on [][2]int, b []api.Entry) []api.Entry {
	var sorted []api.Entry
	for _, e := range b {
		if hasKey(on, ofB, e.Row) {
			sorted = append(sorted, e)
		}
	}
	slices.SortFunc(sorted, func(x, y api.Entry) int {
		return cmp.Or(compareKeys(on, ofB, x.Row, ofB, y.Row), row.Compare(x.Row, y.Row))
	})
	return sorted
}

// fitting is the part of sorted, which is byKey, that fits r, a row that has all of the pairs' columns.
func fitting(on [][2]int, r api.Row, sorted []api.Entry) []api.Entry {
	compare := func(i int) int { return compareKeys(on, ofB, sorted[i].Row, ofA, r) }
	from := sort.Search(len(sorted), func(i int) bool { return compare(i) >= 0 })
	to := sort.Search(len(sorted), func(i int) bool { return compare(i) > 0 })
	return sorted[from:to]
}

// take takes the row that is next out of all lines, with its weights together. There is a line.
func (l *lines) take() (joined, sum.Total) {
	next, t := (*l)[0].next(), sum.Total{}
	for len(*l) > 0 && (*l)[0].next().compare(next) == 0 {
		first := &(*l)[0]
		t.Add(first.a.Weight, first.b[0].Weight)
		l.skip()
	}
	return next, t
}

// skip leaves out the row that is next. There is a line.
func (l *lines) skip() {
	first := &(*l)[0]
	if len(first.b) == 1 {
		// While it is still whole: the heap must never compare one of none.
		heap.Pop(l)
		return
	}
	first.b = first.b[1:]
	heap.Fix(l, 0)
}
