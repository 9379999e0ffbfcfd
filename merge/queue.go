package merge

import (
	"container/heap"

	"belvedere/api"
	"belvedere/row"
	"belvedere/zset"
)

// queue is what is left of z-sets, none of them empty, as a heap of container/heap: the one whose first row is next comes first.
type queue [][]api.Entry

func (q queue) Len() int           { return len(q) }
func (q queue) Less(i, j int) bool { return row.Compare(q[i][0].Row, q[j][0].Row) < 0 }
func (q queue) Swap(i, j int)      { q[i], q[j] = q[j], q[i] }

// Push is for container/heap alone.
func (q *queue) Push(z any) { *q = append(*q, z.([]api.Entry)) }

// Pop is for container/heap alone.
func (q *queue) Pop() any {
	last := len(*q) - 1
	z := (*q)[last]
	*q = (*q)[:last]
	return z
}

// queueOf is a queue of the z-sets l. It is a list of its own: the heap changes the order, and l is the caller's.
func queueOf(l [][]api.Entry) queue {
	q := make(queue, 0, len(l))
	for _, z := range l {
		if len(z) > 0 {
			heap.Push(&q, z)
		}
	}
	return q
}

// nextRow is the row that is next. The queue is not empty.
func (q queue) nextRow() api.Row { return q[0][0].Row }

// take takes the row that is next out of all z-sets and is its sum: one entry, or none; ErrOver. The queue is not empty.
func (q *queue) take() ([]api.Entry, error) {
	next := q.nextRow()
	var found []api.Entry
	for q.Len() > 0 && row.Compare(q.nextRow(), next) == 0 {
		found = append(found, (*q)[0][0])
		q.skip(1)
	}
	return zset.Make(found...)
}

// skip leaves out the first n entries of the first z-set. The queue is not empty.
func (q *queue) skip(n int) {
	first := (*q)[0][n:]
	if len(first) == 0 {
		// While it is still whole: the heap must never compare an empty one.
		heap.Pop(q)
		return
	}
	(*q)[0] = first
	heap.Fix(q, 0)
}
