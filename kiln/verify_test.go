package kiln_test

import (
	"math/rand/v2"
	"slices"
	"testing"

	"kiln/api"
	"kiln/kiln"
)

// right is a row's place, if no instruction is wrong.
const right = -1

func verifies(t *testing.T, name string, u api.Unit, wantE api.Errno, wantF, wantAt int) {
	t.Helper()
	if e, f, at := kiln.Verify(u); e != wantE || f != wantF || at != wantAt {
		t.Errorf("P6: %s: %d, %d, %d, want %d, %d, %d", name, e, f, at, wantE, wantF, wantAt)
	}
}

// row is code of function 0 (see around), and the instruction that is wrong.
type row struct {
	code string
	at   int
}

func verifyRows(t *testing.T, rows []row) {
	t.Helper()
	for _, c := range rows {
		if c.at == right {
			verifies(t, c.code, around(c.code), api.OK, 0, 0)
		} else {
			verifies(t, c.code, around(c.code), api.ErrCode, 0, c.at)
		}
	}
}

func TestVerifyExamples(t *testing.T) {
	verifyRows(t, []row{
		{"Small 6; Small 7; Mul; Ret", right},
		{"Small 6; Mul; Ret", 1},
		{"Small 6; Small 7; Ret", 2},
		{"Small 6", 0},
	})
	verifies(t, "the unit of nothing", api.Unit{}, api.OK, 0, 0)
}

func TestVerifyOperands(t *testing.T) {
	verifyRows(t, []row{
		{"Const 0; Ret", right}, {"Const 1; Ret", right}, {"Const 2; Ret", 0}, {"Const 65535; Ret", 0},
		{"Small -2147483648; Ret", right}, {"Small 2147483647; Ret", right},
		{"Load 0; Ret", right}, {"Load 1; IsNil 2; Ret", right}, {"Load 2; IsNil 1; Ret", right}, {"Load 3; Ret", right}, {"Load 4; Ret", 0}, {"Load 65535; Ret", 0},
		{"Load 1; Ret", 1}, {"Load 2; IsNil 2; Ret", 1}, {"Load 3; IsNil 1; Ret", 1},
		{"Small 1; Store 0; Jump 0", right}, {"Nil 2; Store 1; Jump 0", right}, {"Nil 1; Store 2; Jump 0", right}, {"Small 1; Store 3; Jump 0", right}, {"Small 1; Store 4; Jump 0", 1}, {"Small 1; Store 65535; Jump 0", 1},
		{"Jump 0", right}, {"Jump 1", 0}, {"Jump 65535", 0}, {"Small 0; Pop; Jump 2", right}, {"Small 0; Pop; Jump 3", 2},
		{"Small 0; Zero 3; Jump 0; Jump 0", right}, {"Small 0; Zero 4; Jump 0; Jump 0", 1}, {"Small 0; Zero 65535; Jump 0; Jump 0", 1},
		{"Small 0; Nil 1; Call 1; Pop; Jump 0", right}, {"Call 2; Ret", right}, {"Nil 2; Call 3; Pop; Jump 0", right}, {"Call 4; Pop; Jump 0", right}, {"Call 5; Pop; Jump 0", 0}, {"Call 65535; Pop; Jump 0", 0},
		{"New 0; Pop; Jump 0", 0}, {"Small 1; Nil 1; Nil 2; New 1; Pop; Jump 0", right}, {"Nil 2; New 2; Pop; Jump 0", right}, {"Nil 2; New 3; Pop; Jump 0", 1},
		{"Small 0; Get 0 0; Pop; Jump 0", 1}, {"Nil 1; Get 1 2; Pop; Jump 0", right}, {"Nil 1; Get 1 3; Pop; Jump 0", 1}, {"Nil 2; Get 2 0; Pop; Jump 0", right}, {"Nil 2; Get 2 1; Pop; Jump 0", 1}, {"Nil 2; Get 3 0; Pop; Jump 0", 1}, {"Nil 1; Get 1 65535; Pop; Jump 0", 1},
		{"Small 0; Small 0; Set 0 0; Jump 0", 2}, {"Nil 1; Nil 2; Set 1 2; Jump 0", right}, {"Nil 1; Nil 2; Set 1 3; Jump 0", 2}, {"Nil 2; Nil 2; Set 2 0; Jump 0", right}, {"Nil 2; Nil 2; Set 2 1; Jump 0", 2}, {"Nil 2; Nil 2; Set 3 0; Jump 0", 2},
		{"Nil 0; Pop; Jump 0", 0}, {"Nil 1; Pop; Jump 0", right}, {"Nil 2; Pop; Jump 0", right}, {"Nil 3; Pop; Jump 0", 0},
		{"Small 0; IsNil 0; Ret", 1}, {"Nil 1; IsNil 1; Ret", right}, {"Nil 2; IsNil 2; Ret", right}, {"Nil 2; IsNil 3; Ret", 1},
	})
}

func TestVerifyKinds(t *testing.T) {
	verifyRows(t, []row{
		{"Store 0; Jump 0", 0}, {"Nil 1; Store 0; Jump 0", 1}, {"Small 1; Store 1; Jump 0", 1}, {"Nil 1; Store 1; Jump 0", 1},
		{"Pop; Jump 0", 0}, {"Dup; Jump 0", 0}, {"Small 1; Dup; Equal; Ret", right}, {"Nil 2; Dup; IsNil 2; Pop; IsNil 2; Ret", right}, {"Nil 2; Dup; Pop; IsNil 1; Ret", 3},
		{"Small 1; Small 2; Nil 1; Pop; Less; Ret", right},
		{"Small 1; Nil 1; Add; Ret", 2}, {"Nil 1; Small 1; Sub; Ret", 2}, {"Nil 1; Nil 1; Equal; Ret", 2}, {"Small 1; Less; Ret", 1}, {"Add; Ret", 0},
		{"Zero 1; Jump 0", 0}, {"Nil 1; Zero 0; Jump 0", 1},
		{"Nil 1; Call 1; Pop; Jump 0", 1}, {"Nil 1; Small 1; Call 1; Pop; Jump 0", 2}, {"Small 1; Nil 2; Call 1; Pop; Jump 0", 2}, {"Call 1; Pop; Jump 0", 0},
		{"Small 1; Nil 1; Call 1; IsNil 2; Ret", right}, {"Small 1; Nil 1; Call 1; IsNil 1; Ret", 3}, {"Nil 2; Call 3; IsNil 1; Ret", right}, {"Nil 2; Call 3; IsNil 2; Ret", 2}, {"Nil 1; Call 3; IsNil 1; Ret", 1}, {"Call 4; IsNil 2; Ret", right}, {"Call 4; Ret", 1},
		{"Nil 2; Nil 1; Small 1; New 1; Pop; Jump 0", 3}, {"Nil 1; Nil 2; New 1; Pop; Jump 0", 2}, {"Nil 2; New 2; IsNil 2; Ret", right}, {"Nil 2; New 2; IsNil 1; Ret", 2}, {"Small 1; New 2; Pop; Jump 0", 1},
		{"Get 1 0; Ret", 0}, {"Nil 2; Get 1 0; Ret", 1}, {"Nil 1; Get 1 0; Ret", right}, {"Nil 1; Get 1 1; Ret", 2}, {"Nil 1; Get 1 1; IsNil 1; Ret", right}, {"Nil 1; Get 1 2; IsNil 2; Ret", right}, {"Nil 1; Get 1 2; IsNil 1; Ret", 2},
		{"Set 1 0; Jump 0", 0}, {"Small 1; Set 1 0; Jump 0", 1}, {"Nil 1; Small 1; Set 1 0; Jump 0", right}, {"Small 1; Nil 1; Set 1 0; Jump 0", 2}, {"Nil 1; Small 1; Set 1 1; Jump 0", 2}, {"Nil 2; Small 1; Set 1 0; Jump 0", 2}, {"Nil 1; Nil 2; Set 1 1; Jump 0", 2},
		{"IsNil 1; Ret", 0}, {"Small 1; IsNil 1; Ret", 1}, {"Nil 1; IsNil 2; Ret", 1},
		{"Out; Jump 0", 0}, {"Nil 1; Out; Jump 0", 1}, {"Small 1; Out; Jump 0", right},
	})
}

func TestVerifyRet(t *testing.T) {
	verifyRows(t, []row{
		{"Ret", 0}, {"Nil 1; Ret", 1}, {"Small 1; Small 1; Ret", 2}, {"Nil 1; Small 1; Ret", 2}, {"Small 1; Ret", right},
		// What stands behind a Ret is not come to.
		{"Small 1; Ret; Add", right},
	})
	for kind := range 3 {
		u := around("Nil 2; Ret")
		u.Funcs[0].Result = kind
		if kind == 2 {
			verifies(t, "its own Result", u, api.OK, 0, 0)
		} else {
			verifies(t, "another than its Result", u, api.ErrCode, 0, 1)
		}
	}
}

// MaxStack values may be there behind an instruction, and no more.
func TestVerifyMaxStack(t *testing.T) {
	for _, puts := range []string{"Const 0", "Small 1", "Load 0", "Load 1", "Dup", "Call 2", "Call 4", "Nil 1"} {
		verifyRows(t, []row{
			{repeated(19, "Small 1") + puts + "; Jump 20", right},
			{repeated(20, "Small 1") + puts + "; Jump 21", 20},
		})
	}
	verifyRows(t, []row{
		{repeated(20, "Small 1") + "Jump 20", right},
		{repeated(21, "Small 1") + "Jump 21", 20},
		{repeated(20, "Small 1") + "Add; Jump 21", right},
		{repeated(20, "Small 1") + "Store 0; Small 1; Jump 22", right},
		{repeated(20, "Small 1") + "Store 0; Small 1; Small 1; Jump 23", 22},
		{repeated(20, "Nil 2") + "Get 2 0; Jump 21", right},
		{repeated(20, "Nil 2") + "IsNil 2; Jump 21", right},
		{repeated(20, "Nil 2") + "New 2; Jump 21", right},
		{repeated(20, "Nil 2") + "Call 3; Jump 21", right},
		{repeated(20, "Small 1") + "Dup; Jump 20", 20},
	})
}

// The last instruction of a function must not come to one behind it.
func TestVerifyEnd(t *testing.T) {
	verifyRows(t, []row{
		{"Small 1; Pop", 1}, {"Small 1; Zero 0", 1}, {"Jump 1; Small 1", 1}, {"Jump 2; Add; Jump 0", right}, {"Small 1; Ret", right},
		// Its end counts ahead of what it would come to.
		{"Small 1; Small 1; Zero 0", 2},
	})
	longest := repeated(98, "Small 1; Pop")
	verifyRows(t, []row{
		{longest + "Small 1; Pop; Small 1; Ret", right},
		{longest + "Small 1; Pop; Small 1; Pop", 199},
		{longest + "Small 1; Pop; Small 1; Zero 0", 199},
		{longest + "Small 1; Pop; Jump 199; Jump 0", right},
		{longest + "Small 1; Pop; Jump 200; Jump 0", 198},
	})
}

// An instruction that is come to with another stack is wrong, looked at or not.
func TestVerifyOtherStacks(t *testing.T) {
	verifyRows(t, []row{
		// It was looked at.
		{"Small 1; Jump 0", 0}, {"Small 1; Small 1; Zero 0; Ret", 0}, {"Small 1; Pop; Small 1; Jump 1", right}, {"Small 1; Pop; Nil 1; Jump 1", 1}, {"Small 1; Pop; Small 1; Small 1; Jump 1", 1},
		// It was not.
		{"Small 1; Zero 4; Small 1; Jump 5; Nil 1; Pop; Jump 0", 5}, {"Small 1; Zero 4; Small 1; Jump 5; Small 2; Ret", right}, {"Small 1; Zero 3; Small 1; Pop; Jump 0", 3},
		// Kinds below the top count, and another count with the same top.
		{"Small 1; Zero 5; Small 1; Small 2; Jump 7; Nil 1; Small 2; Pop; Pop; Jump 0", 7}, {"Small 1; Zero 4; Small 1; Small 2; Small 2; Pop; Jump 0", 4},
		// To itself.
		{"Jump 0", right}, {"Small 1; Zero 1; Jump 0", 1}, {"Small 1; Jump 1", right},
		// To the next one, twice with the same stack.
		{"Small 1; Zero 2; Small 1; Ret", right},
		// It was looked at, and the one that comes to it is far behind it.
		{"Jump 3; Pop; Jump 2; Small 1; Small 1; Small 1; Zero 1; Zero 1; Jump 8", 1},
		// Both that Zero comes to were come to with another stack: the one behind it is told, not A.
		{"Small 1; Small 1; Zero 9; Small 1; Zero 10; Pop; Small 1; Jump 8; Zero 10; Ret; Ret", 9},
		{"Small 1; Small 1; Zero 9; Small 1; Zero 10; Pop; Small 1; Jump 8; Zero 1; Ret; Ret", 9},
		// A alone was.
		{"Small 1; Small 1; Zero 8; Pop; Small 1; Zero 8; Jump 0; Jump 0; Ret", 8},
	})
}

// Of those that wait the least one is looked at, whichever was come to first.
func TestVerifyLeastFirst(t *testing.T) {
	verifyRows(t, []row{
		{"Small 1; Zero 3; Pop; Pop", 2},
		{"Jump 2; Mul; Small 5; Small 5; Zero 1; Mul", 1},
		{"Small 1; Zero 9; Small 1; Zero 7; Small 1; Zero 8; Jump 9; Pop; Pop; Pop", 7},
		{"Small 1; Zero 7; Small 1; Zero 8; Small 1; Zero 9; Jump 9; Pop; Pop; Pop", 7},
		{"Small 1; Zero 9; Small 1; Zero 8; Small 1; Zero 7; Jump 9; Pop; Pop; Pop", 7},
		// 2 is come to last, from 9, while 10 and 11 wait.
		{"Jump 4; Jump 1; Pop; Jump 1; Small 1; Zero 11; Small 1; Zero 10; Small 1; Zero 2; Pop; Pop", 2},
		// What is never come to is not wrong.
		{"Jump 2; Add; Jump 4; New 0; Small 1; Ret; Jump 999", right},
	})
}

// However many wait, of two that are wrong the least one is told.
func TestVerifyManyWait(t *testing.T) {
	r := rand.New(rand.NewPCG(31, 32))
	for range 300 {
		const forks, first = 60, 122
		u := around(repeated(forks, "Small 1; Zero 0") + "Small 1; Ret; " + repeated(forks-1, "Jump 0") + "Jump 0")
		list := u.Funcs[0].Code
		for k, to := range r.Perm(forks) {
			list[2*k+1].A = first + to
		}
		wrong := []int{first + r.IntN(forks), first + r.IntN(forks)}
		for _, at := range wrong {
			list[at] = api.Ins{Op: api.Pop}
		}
		verifies(t, "forks", u, api.ErrCode, 0, slices.Min(wrong))
	}
}

// The first function in which something is wrong is told.
func TestVerifyFunctions(t *testing.T) {
	wrong := assembled("Small 1; Out; Pop; Jump 0")
	var most api.Unit
	for range api.MaxFuncs {
		most.Funcs = append(most.Funcs, api.Func{Code: assembled("Call 29; Ret")})
	}
	verifies(t, "as many functions as can be", most, api.OK, 0, 0)
	for n := api.MaxFuncs - 1; n >= 0; n-- {
		most.Funcs[n].Code = wrong
		verifies(t, "a wrong function", most, api.ErrCode, n, 2)
	}
	// Each function has its own slots and Result.
	u := around("Load 0; Ret")
	u.Funcs[1].Code = assembled("Load 2; Pop; Nil 2; Ret")
	verifies(t, "another function's slot", u, api.ErrCode, 1, 0)
	u.Funcs[1].Code = assembled("Load 0; Ret")
	verifies(t, "another function's Result", u, api.ErrCode, 1, 1)
	u.Funcs[1].Code = assembled("Load 1; Pop; Call 4; Ret")
	verifies(t, "its own", u, api.OK, 0, 0)
}

// Functions may take as many Params, and have as many slots, as there may be.
func TestVerifyMostSlots(t *testing.T) {
	f := api.Func{Params: []int{1, 0, 1, 0, 1, 0}, Locals: []int{0, 0, 0, 0, 0, 0, 0, 0, 0, 1}, Result: 1}
	for k, c := range []struct {
		code string
		at   int
	}{
		{"Load 15; Ret", right}, {"Load 16; Ret", 0}, {"Load 14; Ret", 1}, {"Load 4; Ret", right}, {"Load 5; Ret", 1}, {"Load 6; Ret", 1},
		{"Nil 1; Small 1; Nil 1; Small 1; Nil 1; Small 1; Call 0; Ret", right},
		{"Small 1; Nil 1; Small 1; Nil 1; Small 1; Nil 1; Call 0; Ret", 6},
		{"Small 1; Small 1; Nil 1; Small 1; Nil 1; Small 1; Call 0; Ret", 6},
		{"Small 1; Nil 1; Small 1; Nil 1; Small 1; Call 0; Ret", 5},
		{"Nil 1; Nil 1; Small 1; Nil 1; Small 1; Nil 1; Small 1; Call 0; Ret", 8},
	} {
		f.Code = assembled(c.code)
		u := api.Unit{Shapes: [][]int{{1}}, Funcs: []api.Func{f}}
		e, n, at := kiln.Verify(u)
		if c.at == right && (e != api.OK || n != 0 || at != 0) || c.at != right && (e != api.ErrCode || n != 0 || at != c.at) {
			t.Errorf("P6: line %d: %d, %d, %d, want the instruction %d", k, e, n, at, c.at)
		}
	}
}

// Whatever makes a unit not well formed makes it so for Verify too, ahead of all wrong instructions.
func TestVerifyBoundsOfAUnit(t *testing.T) {
	for _, b := range joinedBounds(countBounds(), numberBounds()) {
		u := sample()
		b.change(&u)
		e, f, at := kiln.Verify(u)
		if !b.ok && (e != api.ErrUnit || f != 0 || at != 0) {
			t.Errorf("P6: %s: %d, %d, %d, though it is not well formed", b.name, e, f, at)
		}
		if wantE, wantF, wantAt := lookedThrough(u); b.ok && (e != wantE || f != wantF || at != wantAt) {
			t.Errorf("P6: %s: %d, %d, %d, want %d, %d, %d", b.name, e, f, at, wantE, wantF, wantAt)
		}
	}
}

// Every instruction on every stack of a few values.
func TestVerifyEveryInstruction(t *testing.T) {
	stacks := []string{""}
	for k := 0; k < 40; k++ {
		for _, push := range []string{"Small 1; ", "Nil 1; ", "Nil 2; "} {
			stacks = append(stacks, stacks[k]+push)
		}
	}
	for _, stack := range stacks {
		u := around(stack + "Pop; Jump 0")
		list := u.Funcs[0].Code
		for k := range 21 * 6 * 4 {
			list[len(list)-2] = api.Ins{Op: k / 24, A: k / 4 % 6, B: k % 4}
			list[len(list)-1] = api.Ins{Op: api.Jump, A: len(list) - 1}
			e, f, at := kiln.Verify(u)
			if wantE, wantF, wantAt := lookedThrough(u); e != wantE || f != wantF || at != wantAt {
				t.Fatalf("P6: %v: %d, %d, %d, want %d, %d, %d", list, e, f, at, wantE, wantF, wantAt)
			}
		}
	}
}

func TestVerifyRandomUnits(t *testing.T) {
	r := rand.New(rand.NewPCG(25, 26))
	answers := map[api.Errno]int{}
	for range 1000 {
		for _, u := range soundUnits(r) {
			verifies(t, "sound code", u, api.OK, 0, 0)
			for range 3 {
				list := u.Funcs[r.IntN(len(u.Funcs))].Code
				list[r.IntN(len(list))] = []api.Ins{nearIns(r), list[r.IntN(len(list))], {Op: api.Jump, A: r.IntN(len(list))}}[r.IntN(3)]
				e, f, at := kiln.Verify(u)
				wantE, wantF, wantAt := lookedThrough(u)
				if e != wantE || f != wantF || at != wantAt {
					t.Fatalf("P6: %+v: %d, %d, %d, want %d, %d, %d", u, e, f, at, wantE, wantF, wantAt)
				}
				answers[e]++
			}
		}
	}
	if answers[api.OK] < 1000 || answers[api.ErrCode] < 1000 {
		t.Errorf("too few of one kind: %v", answers)
	}
}

// What Link gives passes Verify, if all units do.
func TestVerifyWhatIsLinked(t *testing.T) {
	r := rand.New(rand.NewPCG(27, 28))
	for range 500 {
		units := soundUnits(r)
		one, e, k := kiln.Link(units)
		if e != api.OK {
			t.Fatalf("P5: %+v: %d, %d", units, e, k)
		}
		verifies(t, "what was linked", one, api.OK, 0, 0)
	}
}

// P1: any numbers, texts and lists.
func TestVerifyOfAnything(t *testing.T) {
	r := rand.New(rand.NewPCG(33, 34))
	for range 5000 {
		u := anyUnit(r)
		if r.IntN(2) == 0 {
			u = randomUnit(r)
		}
		e, f, at := kiln.Verify(u)
		if wantE, wantF, wantAt := lookedThrough(u); e != wantE || f != wantF || at != wantAt {
			t.Fatalf("P1: %+v: %d, %d, %d, want %d, %d, %d", u, e, f, at, wantE, wantF, wantAt)
		}
	}
	verifies(t, "a huge unit", huge(), api.ErrUnit, 0, 0)
	verifies(t, "a unit at all bounds", largest(), api.ErrCode, 0, 0)
	// Encode refuses what is too long; Verify does not ask.
	verifies(t, "a unit of too many bytes", longestUnit(1), api.ErrCode, 0, 20)
}

// P2: neither the lists that are handed in nor what stands behind them is written into.
func TestVerifyLeavesItsArgument(t *testing.T) {
	r := rand.New(rand.NewPCG(29, 30))
	units := []api.Unit{sample(), largest(), around("Small 6; Small 7; Mul; Ret"), around("Small 1; Nil 1; Call 1; Pop; Small 1; Nil 1; Nil 2; New 1; Pop; Jump 0")}
	for range 300 {
		units = append(append(units, anyUnit(r)), soundUnits(r)...)
	}
	leaves(t, "Verify", units, func(u api.Unit) { kiln.Verify(u) })
}

// P2: a list of no elements may be nil or not.
func TestVerifyOfEmptyLists(t *testing.T) {
	u := api.Unit{Shapes: [][]int{}, Consts: []int{}, Imports: []api.Import{}, Exports: []api.Export{},
		Funcs: []api.Func{{Params: []int{}, Locals: []int{}, Code: assembled("Call 0; Ret")}}}
	verifies(t, "empty lists", u, api.OK, 0, 0)
	verifies(t, "nil", plain(u), api.OK, 0, 0)
	u.Funcs[0].Code = nil
	verifies(t, "no code", u, api.ErrUnit, 0, 0)
	u.Funcs[0].Code = []api.Ins{}
	verifies(t, "empty code", u, api.ErrUnit, 0, 0)
}
