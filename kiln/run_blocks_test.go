package kiln_test

import (
	"strconv"
	"testing"

	"kiln/api"
	"kiln/kiln"
)

// heapRow is main's code (see mainly; it gives 7), how many words of heap it wants, and the number of the step that has none with one word less.
type heapRow struct {
	code        string
	words, step int
}

func heapRows(t *testing.T, rows []heapRow, others ...api.Func) {
	t.Helper()
	for _, c := range rows {
		units := encoded(t, program(append([]api.Func{mainly(c.code)}, others...)...))
		for heap := range 40 {
			o := kiln.Run(units, 1000, heap)
			halts := o.Why == api.Halted && o.Result == 7
			if heap >= c.words && !halts || heap < c.words && o.Why != api.NoHeap || heap == c.words-1 && !sameOutcome(o, ended(api.NoHeap, c.step)) {
				t.Errorf("P7: %s, heap %d: %+v, but it wants %d words in step %d", c.code, heap, o, c.words, c.step)
				break
			}
		}
	}
}

const (
	pair = "Small 5; Nil 1; New 1; " // A block of three words.
	four = "Nil 1; Nil 2; Small 5; New 2; "
	last = "Pop; Small 7; Ret"
)

func TestRunWords(t *testing.T) {
	heapRows(t, []heapRow{
		{pair + last, 3, 3}, {four + last, 4, 4},
		{"Small 7; Ret", 0, 0}, {"Nil 1; " + last, 0, 0},
		{pair + pair + "Pop; " + last, 6, 6}, {pair + four + "Pop; " + last, 7, 7}, {four + pair + "Pop; " + last, 7, 7},
	})
	for fields := 1; fields <= api.MaxFields; fields++ {
		u := api.Unit{Shapes: [][]int{filled(fields, 0)}, Funcs: []api.Func{{Code: assembled(repeated(fields, "Small 7") + "New 1; Get 1 0; Ret")}}, Exports: []api.Export{{Name: "main"}}}
		runs(t, "as many words as it wants", encoded(t, u), 99, fields+1, halted(7, fields+3))
		runs(t, "a word less", encoded(t, u), 99, fields, ended(api.NoHeap, fields+1))
	}
}

// What is reached, and what not.
func TestRunReached(t *testing.T) {
	heapRows(t, []heapRow{
		// A place of the stack refers to it until it is taken.
		{pair + "Pop; " + pair + last, 3, 3}, {pair + "Pop; " + pair + "Pop; " + four + last, 4, 12},
		{pair + "IsNil 1; Pop; " + pair + last, 3, 3}, {pair + "Get 1 0; Pop; " + pair + last, 3, 3}, {pair + "Small 1; Set 1 0; " + pair + last, 3, 3},
		{pair + "Dup; Pop; " + pair + "Pop; " + last, 6, 8},
		// A slot does until it holds another.
		{pair + "Store 1; " + pair + last, 6, 7}, {pair + "Store 1; Nil 1; Store 1; " + pair + last, 3, 3}, {pair + "Store 1; " + pair + "Store 1; " + pair + last, 6, 7},
		{pair + "Store 1; Load 1; Pop; " + pair + last, 6, 9},
		{pair + "Store 1; " + four + "Store 2; Nil 1; Store 1; " + pair + last, 7, 8},
		// A number does not, whatever it is.
		{"Small 1; Store 0; Small 2; Store 3; " + pair + "Pop; " + pair + last, 3, 7},
		// However many refer to a block, it counts once.
		{pair + "Dup; Dup; Dup; Store 1; " + pair + "Pop; Pop; Pop; " + last, 6, 10},
		// A field of a block that is reached.
		{"Small 1; " + pair + "New 1; Store 1; " + pair + last, 9, 9},
		{"Small 1; Small 1; " + pair + "New 1; New 1; Store 1; " + pair + last, 12, 11},
		{"Small 1; " + pair + "New 1; Dup; Nil 1; Set 1 1; " + pair + "Pop; " + last, 6, 5},
		{"Small 1; " + pair + "New 1; Get 1 1; Store 1; " + pair + last, 6, 5},
		{"Small 1; " + pair + "New 1; Get 1 1; Store 1; " + pair + "Pop; " + pair + "Store 1; " + pair + last, 6, 5},
		// A field of a block that is not reached does not.
		{"Small 1; " + pair + "New 1; Pop; " + four + last, 6, 5},
		{"Small 1; " + pair + "New 1; Pop; " + four + four + "Pop; " + last, 8, 14},
		// Rings: of one block, and of two.
		{pair + "Store 1; Load 1; Load 1; Set 1 1; " + four + last, 7, 11},
		{pair + "Store 1; Load 1; Load 1; Set 1 1; Nil 1; Store 1; " + four + last, 4, 13},
		{pair + "Store 1; Load 1; Small 1; Load 1; New 1; Set 1 1; " + four + four + "Pop; " + last, 14, 17},
		{pair + "Store 1; Load 1; Small 1; Load 1; New 1; Set 1 1; Nil 1; Store 1; " + four + four + "Pop; " + last, 8, 19},
		{four + "Store 2; Load 2; Load 2; Set 2 1; Load 2; Get 2 1; Get 2 1; Store 2; " + pair + last, 7, 15},
		// The values of the new block's fields are reached, even if nothing else refers to them.
		{"Small 1; " + pair + "New 1; " + last, 6, 5},
		{pair + "Nil 2; Small 1; New 2; " + last, 7, 6},
	})
}

func TestRunReachedInFrames(t *testing.T) {
	others := []api.Func{
		// 1 makes a block, and drops it.
		{Code: assembled(pair + "Pop; Small 0; Ret")},
		// 2 gets a block, drops it and makes another.
		{Params: []int{1}, Code: assembled("Nil 1; Store 0; " + pair + "Pop; Small 0; Ret")},
		// 3 gets a block, and makes another.
		{Params: []int{1}, Locals: []int{1}, Code: assembled(pair + "Store 1; Small 0; Ret")},
		// 4 gives a block, and drops another.
		{Result: 1, Locals: []int{1}, Code: assembled(pair + "Store 0; " + pair + "Ret")},
		// 5 calls 2 with what it got, which it still has.
		{Params: []int{1}, Code: assembled("Load 0; Call 2; Ret")},
		// 6 calls 3 without having anything itself.
		{Code: assembled(pair + "Call 3; Ret")},
	}
	heapRows(t, []heapRow{
		{"Call 1; Pop; Call 1; " + last, 3, 4},
		// What the calling function's stack and slots refer to is reached.
		{pair + "Call 1; Pop; " + last, 6, 7}, {pair + "Store 1; Call 1; " + last, 6, 8},
		// What is handed over is the other function's.
		{pair + "Call 2; " + last, 3, 3}, {pair + "Dup; Call 2; Pop; " + last, 6, 10}, {pair + "Call 3; " + last, 6, 7},
		{pair + "Call 5; " + last, 6, 11}, {"Call 6; " + last, 6, 8},
		// A frame that has ended refers to nothing.
		{pair + "Call 3; Pop; " + four + last, 6, 7}, {"Call 6; Pop; Call 6; Pop; " + four + last, 6, 8},
		// What it gave is reached.
		{"Call 4; " + last, 6, 8}, {"Call 4; " + pair + "Pop; " + last, 6, 8}, {"Call 4; " + four + "Pop; " + last, 7, 13}, {"Call 4; Pop; " + pair + last, 6, 8},
	}, others...)
}

// chain makes so many blocks of two words, each of which refers to the one before it.
func chain(length int, then string) api.Unit {
	return api.Unit{
		Shapes:  [][]int{{1}},
		Funcs:   []api.Func{{Locals: []int{1, 0}, Code: assembled("Load 1; Small " + strconv.Itoa(length) + "; Less; Zero 12; Load 0; New 1; Store 0; Load 1; Small 1; Add; Store 1; Jump 0; " + then)}},
		Exports: []api.Export{{Name: "main"}},
	}
}

// As much as there may be: each block counts, however far it is from a slot.
func TestRunMostHeap(t *testing.T) {
	const most = api.MaxHeap / 2
	runs(t, "a chain", encoded(t, chain(most, "Small 7; Ret")), api.MaxFuel, api.MaxHeap, halted(7, 12*most+6))
	runs(t, "a chain", encoded(t, chain(most, "Small 7; Ret")), api.MaxFuel, api.MaxHeap-1, ended(api.NoHeap, 12*most-6))
	runs(t, "a chain", encoded(t, chain(most+1, "Small 7; Ret")), api.MaxFuel, api.MaxHeap, ended(api.NoHeap, 12*most+6))
	// With room for one more, any number can be made and dropped.
	runs(t, "a block at a time", encoded(t, chain(most-1, "Nil 1; New 1; Pop; Jump 12")), api.MaxFuel, api.MaxHeap, ended(api.NoFuel, api.MaxFuel))
	runs(t, "a block more", encoded(t, chain(most-1, "Nil 1; New 1; New 1; Pop; Jump 12")), api.MaxFuel, api.MaxHeap, ended(api.NoHeap, 12*(most-1)+7))
	// The whole chain is dropped, and made again.
	runs(t, "a chain again", encoded(t, chain(most, "Nil 1; Store 0; Small 0; Store 1; Jump 0")), api.MaxFuel, api.MaxHeap, ended(api.NoFuel, api.MaxFuel))
	// Only its first block is.
	runs(t, "nearly the whole", encoded(t, chain(most, "Load 0; Get 1 0; Nil 1; New 1; Pop; Pop; Jump 12")), api.MaxFuel, api.MaxHeap, ended(api.NoHeap, 12*most+8))
	runs(t, "but its end", encoded(t, chain(most, "Load 0; Get 1 0; Store 0; Nil 1; New 1; Pop; Small 7; Ret")), api.MaxFuel, api.MaxHeap, halted(7, 12*most+12))
}
