package beat

import (
	"container/heap"
	"slices"

	"interchange/api"
)

// queue is a heap of what is due: the first one in order is on its top.
type queue []api.Due

func (q queue) Len() int      { return len(q) }
func (q queue) Swap(i, j int) { q[i], q[j] = q[j], q[i] }

func (q queue) Less(i, j int) bool {
	a, b := q[i], q[j]
	return a.At < b.At || a.At == b.At && a.Id < b.Id
}

func (q *queue) Push(d any) { *q = append(*q, d.(api.Due)) }

func (q *queue) Pop() any {
	last := len(*q) - 1
	d := (*q)[last]
	*q = (*q)[:last]
	return d
}

// comeOff takes off one by one, in order, what stands ahead of the first one that stays.
func (q *queue) comeOff(stays func(api.Due) bool) []api.Due {
	var l []api.Due
off:
	for {
		switch {
		case q.Len() == 0, stays((*q)[0]):
			break off
		default:
			l = append(l, heap.Pop(q).(api.Due))
		}
	}
	return l
}

// heaped is a heap of all in a list but what is dropped.
func heaped(l []api.Due, dropped func(api.Due) bool) *queue {
	q := queue(slices.DeleteFunc(slices.Clone(l), dropped)) // a clone: the list that is handed in stays as it is
	heap.Init(&q)
	return &q
}

// of tells what has an Id.
func of(id int) func(api.Due) bool {
	return func(d api.Due) bool { return d.Id == id }
}

// none tells nothing: nothing is dropped, or nothing stays.
func none(api.Due) bool { return false }
