package look

import (
	"container/heap"
	"math/rand/v2"
	"slices"
	"testing"
)

// What waits comes out with the least one first, whatever goes in between.
func TestWaitingLeastFirst(t *testing.T) {
	r := rand.New(rand.NewPCG(1, 2))
	var w waiting
	var list []int
	for range 5000 {
		if r.IntN(2) == 0 {
			at := r.IntN(200)
			heap.Push(&w, at)
			list = append(list, at)
			continue
		}
		if len(list) == 0 {
			continue
		}
		least := slices.Min(list)
		list = slices.Delete(list, slices.Index(list, least), slices.Index(list, least)+1)
		if at := heap.Pop(&w).(int); at != least || w.Len() != len(list) {
			t.Fatalf("%d came out, and %d are left, want %d and %d", at, w.Len(), least, len(list))
		}
	}
}
