package kiln_test

import (
	"math/rand/v2"
	"testing"

	"kiln/api"
	"kiln/kiln"
)

// tally is how many runs ended in which way; those that made more words than the heap has are counted under roomMade.
type tally map[int]int

const roomMade = -1

func (all tally) enough(t *testing.T, least int, keys ...int) {
	t.Helper()
	for _, k := range keys {
		if all[k] < least {
			t.Errorf("too few of %d: %v", k, all)
		}
	}
}

// runsAlike holds a run against the second opinion.
func runsAlike(t *testing.T, all tally, units []string, one api.Unit, main, fuel, heap int) api.Outcome {
	t.Helper()
	o := kiln.Run(units, fuel, heap)
	s := ranSlowly(one, main, fuel, heap)
	if s.wrong != "" {
		t.Fatalf("P8: %+v: %s", one, s.wrong)
	}
	if !sameOutcome(o, s.outcome) {
		t.Fatalf("P7: %+v, fuel %d, heap %d: %+v, want %+v", one, fuel, heap, o, s.outcome)
	}
	all[o.Why]++
	if s.made() > heap {
		all[roomMade]++
	}
	return o
}

// haltsAlike asks again, with more of this and that, for what has halted.
func haltsAlike(t *testing.T, r *rand.Rand, units []string, fuel, heap int, o api.Outcome) {
	t.Helper()
	more := [][2]int{{fuel + 1, heap}, {fuel, heap + 1}, {fuel + r.IntN(1000), heap + r.IntN(1000)}, {api.MaxFuel, heap}, {fuel, api.MaxHeap}, {api.MaxFuel, api.MaxHeap}}
	for _, m := range more {
		if again := kiln.Run(units, m[0], m[1]); !sameOutcome(again, o) {
			t.Errorf("P8: %x, fuel %d, heap %d: %+v, but with %v %+v", units, fuel, heap, o, m, again)
		}
	}
}

func TestRunRandomUnits(t *testing.T) {
	r := rand.New(rand.NewPCG(41, 42))
	all := tally{}
	for range 1000 {
		units, one, main := randomRun(t, r)
		for range 3 {
			fuel, heap := r.IntN(500), r.IntN(20)
			o := runsAlike(t, all, units, one, main, fuel, heap)
			if o.Why == api.Halted {
				haltsAlike(t, r, units, fuel, heap, o)
			}
		}
	}
	all.enough(t, 50, api.Halted, api.NoFuel, api.TooDeep, api.Fault)
}

func TestRunRandomBlocks(t *testing.T) {
	r := rand.New(rand.NewPCG(43, 44))
	all := tally{}
	for range 2000 {
		u := blockProgram(r)
		units := encoded(t, u)
		for range 5 {
			fuel, heap := r.IntN(1000), r.IntN(60)
			o := runsAlike(t, all, units, u, 0, fuel, heap)
			if o.Why == api.Halted {
				haltsAlike(t, r, units, fuel, heap, o)
			}
		}
	}
	all.enough(t, 50, api.Halted, api.NoFuel, api.NoHeap, api.TooDeep, api.Fault, roomMade)
}
