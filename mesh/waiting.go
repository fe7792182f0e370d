package mesh

import (
	"cmp"
	"container/heap"
)

// waiting is a heap of the sides that are to be looked at, the one with the least names first: so the order in which
// they come out is that of their names alone, whatever the order in which they came in.
type waiting []side

// add lets a side wait upward: either way round it is the same one to look at.
func (w *waiting) add(s side) {
	heap.Push(w, s.upward())
}

// next takes out the side with the least names. There must be one.
func (w *waiting) next() side {
	return heap.Pop(w).(side)
}

// The rest is what package heap asks for.

func (w waiting) Len() int { return len(w) }

func (w waiting) Less(i, j int) bool {
	return cmp.Or(cmp.Compare(w[i].from, w[j].from), cmp.Compare(w[i].to, w[j].to)) < 0
}

func (w waiting) Swap(i, j int) { w[i], w[j] = w[j], w[i] }

func (w *waiting) Push(s any) { *w = append(*w, s.(side)) }

func (w *waiting) Pop() any {
	end := len(*w) - 1
	last := (*w)[end]
	*w = (*w)[:end]
	return last
}
