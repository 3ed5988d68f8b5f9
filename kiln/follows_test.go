package kiln_test

import (
	"math/rand/v2"
	"reflect"
	"testing"

	"kiln/api"
	"kiln/kiln"
)

// P8: Decode of what Encode gives is the unit; Encode of what Decode gives are the bytes.
func TestThereAndBack(t *testing.T) {
	r := rand.New(rand.NewPCG(51, 52))
	units := []api.Unit{{}, sample(), longestUnit(0), program(mainly("Small 1; Ret"))}
	for range 500 {
		units = append(append(units, randomUnit(r), blockProgram(r)), soundUnits(r)...)
	}
	for _, u := range units {
		text, e := kiln.Encode(u)
		same, f, at := kiln.Decode(text)
		if e != api.OK || f != api.OK || at != 0 || !reflect.DeepEqual(plain(same), plain(u)) {
			t.Fatalf("P8: %+v became %+v: %d, %d, %d", u, same, e, f, at)
		}
		if again, e := kiln.Encode(same); again != text || e != api.OK {
			t.Fatalf("P8: %x became %x, %d", text, again, e)
		}
	}
}

// changed is the unit with an instruction or two turned into others.
func changed(r *rand.Rand, u api.Unit) api.Unit {
	u = plain(u)
	for range 1 + r.IntN(2) {
		list := u.Funcs[r.IntN(len(u.Funcs))].Code
		at := r.IntN(len(list))
		switch r.IntN(3) {
		case 0:
			list[at] = nearIns(r)
		case 1:
			list[at] = list[r.IntN(len(list))]
		case 2:
			if op := list[at].Op; op == api.Jump || op == api.Zero {
				list[at].A = r.IntN(len(list))
			} else if op != api.Small && list[at].A > 0 {
				list[at].A = r.IntN(5)
			}
		}
	}
	return u
}

// P8: what Verify lets pass never takes a value of a kind that it must not, and what it does not is not run.
func TestRunWhatVerifyLetsPass(t *testing.T) {
	r := rand.New(rand.NewPCG(53, 54))
	all := tally{}
	for range 6000 {
		u := changed(r, blockProgram(r))
		units := encoded(t, u)
		fuel, heap := r.IntN(1000), r.IntN(60)
		if e, function, at := kiln.Verify(u); e != api.OK {
			runs(t, "what Verify refuses", units, fuel, heap, api.Outcome{Why: api.BadCode, E: e, Unit: function, At: at})
			all[api.BadCode]++
			continue
		}
		runsAlike(t, all, units, u, 0, fuel, heap)
	}
	all.enough(t, 50, api.BadCode, api.Halted, api.NoFuel, api.NoHeap, api.Fault)
}

// P8: however long.
func TestRunForLong(t *testing.T) {
	r := rand.New(rand.NewPCG(55, 56))
	all := tally{}
	for all[api.NoFuel] < 20 {
		u := blockProgram(r)
		units := encoded(t, u)
		if kiln.Run(units, 20000, 100).Why == api.NoFuel {
			runsAlike(t, all, units, u, 0, 20000, 100)
		}
	}
}
