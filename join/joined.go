package join

import (
	"slices"

	"belvedere/api"
	"belvedere/row"
)

// joined is a row with another one behind it. They are put together only where they are handed out.
type joined struct{ front, back api.Row }

// together is the row, in memory of its own.
func (x joined) together() api.Row { return slices.Concat(x.front, x.back) }

// compare is row.Compare of the two put together.
func (x joined) compare(y joined) int {
	n := min(len(x.front), len(y.front))
	if c := row.Compare(x.front[:n], y.front[:n]); c != 0 {
		return c
	}
	if n == len(x.front) {
		return compareWith(x.back, joined{y.front[n:], y.back})
	}
	return -compareWith(y.back, joined{x.front[n:], x.back})
}

// compareWith is row.Compare of r and of y put together.
func compareWith(r api.Row, y joined) int {
	n := min(len(r), len(y.front))
	if c := row.Compare(r[:n], y.front); c != 0 {
		return c
	}
	return row.Compare(r[n:], y.back)
}
