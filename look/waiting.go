package look

import "sort"

// waiting are the instructions that were come to and not looked at: a heap, the least one at its top.
type waiting struct{ sort.IntSlice }

func (w *waiting) Push(at any) {
	w.IntSlice = append(w.IntSlice, at.(int))
}

func (w *waiting) Pop() any {
	last := w.Len() - 1
	at := w.IntSlice[last]
	w.IntSlice = w.IntSlice[:last]
	return at
}
