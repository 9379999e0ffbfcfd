// Package queue: z-sets side by side, the one whose row is next at the head.
package queue

import (
	"container/heap"

	"belvedere/api"
	"belvedere/row"
)

// Queue is what is left of z-sets. It goes over the entries that it is given, not over copies.
type Queue struct{ rests rests }

// Of is a queue of the z-sets l. It is a list of its own: the heap changes the order, and l is the caller's.
func Of(l [][]api.Entry) Queue {
	q := Queue{make(rests, 0, len(l))}
	for _, z := range l {
		if len(z) > 0 {
			heap.Push(&q.rests, z)
		}
	}
	return q
}

// Empty tells whether nothing is left of any z-set.
func (q *Queue) Empty() bool { return len(q.rests) == 0 }

// First is what is left of the z-set whose row is next. The queue is not empty.
func (q *Queue) First() []api.Entry { return q.rests[0] }

// Skip leaves out the first n entries of First. The queue is not empty.
func (q *Queue) Skip(n int) {
	first := q.rests[0][n:]
	if len(first) == 0 {
		// While it is still whole: the heap must never compare an empty one.
		heap.Pop(&q.rests)
		return
	}
	q.rests[0] = first
	heap.Fix(&q.rests, 0)
}

// rests are lists of entries, none of them empty, as a heap of container/heap: the one whose first row is next comes first.
type rests [][]api.Entry

func (l rests) Len() int           { return len(l) }
func (l rests) Less(i, j int) bool { return row.Compare(l[i][0].Row, l[j][0].Row) < 0 }
func (l rests) Swap(i, j int)      { l[i], l[j] = l[j], l[i] }

// Push is for container/heap alone.
func (l *rests) Push(z any) { *l = append(*l, z.([]api.Entry)) }

// Pop is for container/heap alone.
func (l *rests) Pop() any {
	last := len(*l) - 1
	z := (*l)[last]
	*l = (*l)[:last]
	return z
}
