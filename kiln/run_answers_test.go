package kiln_test

import (
	"math/rand/v2"
	"reflect"
	"slices"
	"testing"

	"kiln/api"
	"kiln/kiln"
)

// outcomeOf does what P7 says in all, asking the other calls and the second opinion.
func outcomeOf(units []string, fuel, heap int) api.Outcome {
	if fuel < 0 || fuel > 200000 || heap < 0 || heap > 5000 {
		return api.Outcome{Why: api.BadArgs}
	}
	var list []api.Unit
	for n, text := range units {
		u, e, at := kiln.Decode(text)
		if e != api.OK {
			return api.Outcome{Why: api.BadBytes, E: e, Unit: n, At: at}
		}
		list = append(list, u)
	}
	one, e, n := kiln.Link(list)
	if e != api.OK {
		return api.Outcome{Why: api.BadLink, E: e, Unit: n}
	}
	if e, function, at := kiln.Verify(one); e != api.OK {
		return api.Outcome{Why: api.BadCode, E: e, Unit: function, At: at}
	}
	for _, x := range one.Exports {
		if f := one.Funcs[x.Func]; x.Name == "main" && len(f.Params) == 0 && f.Result == 0 {
			s := ranSlowly(one, x.Func, fuel, heap)
			return s.outcome
		}
	}
	return api.Outcome{Why: api.NoMain}
}

// anyUnits is the bytes of units that mostly can be run, with something wrong in some.
func anyUnits(r *rand.Rand) []string {
	sound := soundUnits(r)
	if r.IntN(4) == 0 {
		k := r.IntN(len(sound))
		sound[k] = changed(r, sound[k])
	}
	if r.IntN(6) == 0 {
		spoil(r, &sound[r.IntN(len(sound))])
	}
	if r.IntN(8) == 0 {
		sound[0].Exports[0].Name = "other"
	}
	var units []string
	for _, u := range sound {
		units = append(units, bytesOf(u))
	}
	if r.IntN(8) == 0 {
		b := []byte(units[0])
		b[r.IntN(len(b))]++
		units[0] = string(b)
	}
	if r.IntN(16) == 0 {
		units = slices.Repeat(units, r.IntN(4))
	}
	return units
}

// P1: any bytes, however many, and any numbers.
func TestRunOfAnything(t *testing.T) {
	r := rand.New(rand.NewPCG(61, 62))
	numbers := []int{leastNumber, -1, 200001, mostNumber}
	all := tally{}
	for range 3000 {
		units, fuel, heap := anyUnits(r), r.IntN(300), r.IntN(20)
		if r.IntN(20) == 0 {
			fuel = numbers[r.IntN(4)]
		}
		if r.IntN(20) == 0 {
			heap = numbers[r.IntN(4)]
		}
		o, want := kiln.Run(units, fuel, heap), outcomeOf(units, fuel, heap)
		if !sameOutcome(o, want) {
			t.Fatalf("P1: %x, %d, %d: %+v, want %+v", units, fuel, heap, o, want)
		}
		all[o.Why]++
	}
	all.enough(t, 20, api.BadArgs, api.BadBytes, api.BadLink, api.BadCode, api.NoMain, api.Halted, api.NoFuel, api.TooDeep, api.Fault)
	many := api.Outcome{Why: api.BadLink, E: api.ErrMany}
	runs(t, "very many small units", slices.Repeat(encoded(t, api.Unit{}), 100000), 0, 0, many)
	runs(t, "many units of the most bytes", slices.Repeat(encoded(t, longestUnit(0)), 500), 0, 0, many)
}

// P1: any bodies of sections.
func FuzzRun(f *testing.F) {
	r := rand.New(rand.NewPCG(67, 68))
	for _, u := range []api.Unit{{}, sample(), program(mainly("Small 1; Ret")), blockProgram(r), blockProgram(r), soundUnits(r)[0]} {
		b := bodiesOf(u)
		f.Add(b[0], b[1], b[2], b[3], b[4], 100, 20)
	}
	f.Fuzz(func(t *testing.T, a, b, c, d, e string, fuel, heap int) {
		text, _ := joined([]string{a, b, c, d, e})
		// The second opinion is slow.
		fuel = min(fuel, 5000)
		if o, want := kiln.Run([]string{text}, fuel, heap), outcomeOf([]string{text}, fuel, heap); !sameOutcome(o, want) {
			t.Errorf("P1: %x, %d, %d: %+v, want %+v", text, fuel, heap, o, want)
		}
	})
}

// P2: the list that is handed in is not written into, nor is what stands behind it.
func TestRunLeavesItsArgument(t *testing.T) {
	r := rand.New(rand.NewPCG(63, 64))
	for range 300 {
		units := spare(anyUnits(r), "mark")
		before := slices.Clone(units[:cap(units)])
		kiln.Run(units, 100, 20)
		if after := units[:cap(units)]; !slices.Equal(after, before) {
			t.Fatalf("P2: Run wrote into what it was given: %x, before: %x", after, before)
		}
	}
}

// P2: what was told is new memory, and the caller's.
func TestRunToldIsTheCallers(t *testing.T) {
	units := encoded(t, program(mainly("Small 4; Out; Small 5; Out; Small 6; Out; Small 7; Ret")))
	a, b := kiln.Run(units, 99, 0), kiln.Run(units, 99, 0)
	shareNothing(t, []piece{listPiece("Told", a.Told), listPiece("Told again", b.Told)})
	overwrite(a.Told, mark)
	want := halted(7, 8, 4, 5, 6)
	if c := kiln.Run(units, 99, 0); !sameOutcome(b, want) || !sameOutcome(c, want) {
		t.Errorf("P2: %+v and %+v, want %+v", b, c, want)
	}
}

// P2: the same arguments, the same answer, whatever was run in between.
func TestRunAgain(t *testing.T) {
	r := rand.New(rand.NewPCG(65, 66))
	type asked struct {
		units      []string
		fuel, heap int
		answer     api.Outcome
	}
	var list []asked
	for range 300 {
		q := asked{units: encoded(t, blockProgram(r)), fuel: r.IntN(2000), heap: r.IntN(60)}
		q.answer = kiln.Run(q.units, q.fuel, q.heap)
		list = append(list, q)
	}
	slices.Reverse(list)
	for _, q := range list {
		if again := kiln.Run(q.units, q.fuel, q.heap); !reflect.DeepEqual(again, q.answer) {
			t.Errorf("P2: %x, %d, %d: %+v, and then %+v", q.units, q.fuel, q.heap, q.answer, again)
		}
	}
}
