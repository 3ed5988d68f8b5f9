package kiln_test

import (
	"math/rand/v2"
	"slices"
	"strconv"
	"testing"

	"kiln/api"
	"kiln/kiln"
)

// thing is a value that knows its kind. A reference to nothing has the block 0.
type thing struct{ kind, number, block int }

// slowRun does what P7 says, with what it promises of kinds (P8), as a second opinion: each value knows its kind, every stack is held against the document's table, and what is reached is sought anew at every New.
type slowRun struct {
	unit       api.Unit
	fuel, heap int
	places     []*[]thing // The slots and the stack of each frame.
	blocks     [][]thing  // Block n is the n-th, counted from 1.
	outcome    api.Outcome
	wrong      string // What is against P8.
}

// ranSlowly runs function main of a unit that was looked through.
func ranSlowly(u api.Unit, main, fuel, heap int) slowRun {
	s := slowRun{unit: u, fuel: fuel, heap: heap}
	if v, ended := s.call(main, nil); ended {
		s.outcome.Why, s.outcome.Result = api.Halted, v.number
	}
	return s
}

// made is how many words all blocks have, reached or not.
func (s *slowRun) made() int {
	words := 0
	for _, b := range s.blocks {
		words += len(b) + 1
	}
	return words
}

func (s *slowRun) stop(why int) (thing, bool) {
	s.outcome.Why = why
	return thing{}, false
}

func (s *slowRun) call(number int, params []thing) (result thing, ended bool) {
	if len(s.places) == 2*100 {
		return s.stop(api.TooDeep)
	}
	f := s.unit.Funcs[number]
	slots, stack := slices.Clone(params), []thing(nil)
	for _, k := range f.Locals {
		slots = append(slots, thing{kind: k})
	}
	s.places = append(s.places, &slots, &stack)
	defer func() { s.places = s.places[:len(s.places)-2] }()
	take := func(n int) []thing {
		list := slices.Clone(stack[len(stack)-n:])
		stack = stack[:len(stack)-n]
		return list
	}
	put := func(v ...thing) { stack = append(stack, v...) }
	for at := 0; ; at++ {
		if s.outcome.Steps == s.fuel {
			return s.stop(api.NoFuel)
		}
		s.outcome.Steps++
		i := f.Code[at]
		behind, ok := behindIt(s.unit, f, i, kindsOf(stack))
		if !ok {
			s.wrong = "function " + strconv.Itoa(number) + ", instruction " + strconv.Itoa(at) + ": the stack is " + kindsOf(stack)
			return s.stop(0)
		}
		switch i.Op {
		case api.Const:
			put(thing{number: s.unit.Consts[i.A]})
		case api.Small:
			put(thing{number: i.A})
		case api.Load:
			put(slots[i.A])
		case api.Store:
			slots[i.A] = take(1)[0]
		case api.Pop:
			take(1)
		case api.Dup:
			put(stack[len(stack)-1])
		case api.Add, api.Sub, api.Mul, api.Less, api.Equal:
			xy := take(2)
			put(thing{number: reckonedSlowly(i.Op, xy[0].number, xy[1].number)})
		case api.Jump:
			at = i.A - 1
		case api.Zero:
			if take(1)[0].number == 0 {
				at = i.A - 1
			}
		case api.Call:
			v, ended := s.call(i.A, take(len(s.unit.Funcs[i.A].Params)))
			if !ended {
				return v, false
			}
			put(v)
		case api.Ret:
			return take(1)[0], true
		case api.New:
			n := len(s.unit.Shapes[i.A-1])
			if s.reached()+n+1 > s.heap {
				return s.stop(api.NoHeap)
			}
			s.blocks = append(s.blocks, take(n))
			put(thing{kind: i.A, block: len(s.blocks)})
		case api.Get:
			v := take(1)[0]
			if v.block == 0 {
				return s.stop(api.Fault)
			}
			put(s.blocks[v.block-1][i.B])
		case api.Set:
			vs := take(2)
			if vs[0].block == 0 {
				return s.stop(api.Fault)
			}
			s.blocks[vs[0].block-1][i.B] = vs[1]
		case api.Nil:
			put(thing{kind: i.A})
		case api.IsNil:
			put(thing{number: b2i(take(1)[0].block == 0)})
		case api.Out:
			v := take(1)[0].number
			if len(s.outcome.Told) < 1000 {
				s.outcome.Told = append(s.outcome.Told, v)
			}
		}
		if kindsOf(stack) != behind {
			s.wrong = "function " + strconv.Itoa(number) + ", behind instruction " + strconv.Itoa(at) + ": the stack is " + kindsOf(stack)
		}
	}
}

func reckonedSlowly(op, x, y int) int {
	switch op {
	case api.Add:
		return int(uint64(x) + uint64(y))
	case api.Sub:
		return int(uint64(x) - uint64(y))
	case api.Mul:
		return int(uint64(x) * uint64(y))
	case api.Less:
		return b2i(x < y)
	}
	return b2i(x == y)
}

func kindsOf(stack []thing) string {
	var list []int
	for _, v := range stack {
		list = append(list, v.kind)
	}
	return asText(list...)
}

// reached is how many words the blocks have that are reached.
func (s *slowRun) reached() int {
	words := 0
	seen := make([]bool, len(s.blocks))
	var visit func(places []thing)
	visit = func(places []thing) {
		for _, v := range places {
			if v.block != 0 && !seen[v.block-1] {
				seen[v.block-1] = true
				words += len(s.blocks[v.block-1]) + 1
				visit(s.blocks[v.block-1])
			}
		}
	}
	for _, p := range s.places {
		visit(*p)
	}
	return words
}

// program is a unit of these functions, with the shapes 1 (0, 1) and 2 (1, 2, 0) and three consts; the first one is exported as main.
func program(funcs ...api.Func) api.Unit {
	return api.Unit{
		Shapes:  [][]int{{0, 1}, {1, 2, 0}},
		Consts:  []int{1<<63 - 1, -1 << 63, 1 << 32},
		Funcs:   funcs,
		Exports: []api.Export{{Name: "main"}},
	}
}

// mainly is a function without Params, the Result 0, and the slots 0, 1, 2, 0.
func mainly(text string) api.Func {
	return api.Func{Locals: []int{0, 1, 2, 0}, Code: assembled(text)}
}

// encoded is the bytes of units.
func encoded(t *testing.T, units ...api.Unit) []string {
	t.Helper()
	var list []string
	for _, u := range units {
		s, e := kiln.Encode(u)
		if e != api.OK {
			t.Fatalf("P3: %+v: %d", u, e)
		}
		list = append(list, s)
	}
	return list
}

func sameOutcome(a, b api.Outcome) bool {
	return a.Why == b.Why && a.E == b.E && a.Unit == b.Unit && a.At == b.At && a.Result == b.Result && a.Steps == b.Steps && slices.Equal(a.Told, b.Told)
}

// runs asks for this outcome.
func runs(t *testing.T, name string, units []string, fuel, heap int, want api.Outcome) {
	t.Helper()
	if o := kiln.Run(units, fuel, heap); !sameOutcome(o, want) {
		t.Errorf("P7: %s, fuel %d, heap %d: %+v, want %+v", name, fuel, heap, o, want)
	}
}

// randomRun is units that link, of which main can be run, what they are together, and main's number there.
func randomRun(t *testing.T, r *rand.Rand) (units []string, one api.Unit, main int) {
	t.Helper()
	sound := soundUnits(r)
	one, e, _ := kiln.Link(sound)
	if e != api.OK {
		t.Fatalf("P5: %+v: %d", sound, e)
	}
	for _, x := range one.Exports {
		if x.Name == "main" {
			main = x.Func
		}
	}
	return encoded(t, sound...), one, main
}
