package kiln_test

import (
	"slices"
	"strconv"
	"strings"
	"testing"

	"kiln/api"
	"kiln/kiln"
)

const (
	leastNumber = -1 << 63
	mostNumber  = 1<<63 - 1
)

func halted(result, steps int, told ...int) api.Outcome {
	return api.Outcome{Why: api.Halted, Result: result, Steps: steps, Told: told}
}

func ended(why, steps int, told ...int) api.Outcome {
	return api.Outcome{Why: why, Steps: steps, Told: told}
}

// runRow is main's code (see mainly), and what comes of it with enough fuel and heap.
type runRow struct {
	code string
	want api.Outcome
}

func runRows(t *testing.T, rows []runRow, others ...api.Func) {
	t.Helper()
	for _, c := range rows {
		units := encoded(t, program(append([]api.Func{mainly(c.code)}, others...)...))
		runs(t, c.code, units, 1000, 100, c.want)
		atEveryFuel(t, c.code, units, c.want)
	}
}

// atEveryFuel: with less fuel than steps it has not ended, and has told no more than until then.
func atEveryFuel(t *testing.T, name string, units []string, want api.Outcome) {
	t.Helper()
	told := 0
	for fuel := range want.Steps {
		o := kiln.Run(units, fuel, 100)
		if told > len(o.Told) || len(o.Told) > len(want.Told) || !slices.Equal(o.Told, want.Told[:len(o.Told)]) {
			t.Errorf("P7: %s, fuel %d: %v are told, in the end %v", name, fuel, o.Told, want.Told)
			return
		}
		told = len(o.Told)
		if !sameOutcome(o, ended(api.NoFuel, fuel, o.Told...)) {
			t.Errorf("P7: %s, fuel %d: %+v, but it takes %d steps", name, fuel, o, want.Steps)
		}
	}
	runs(t, name, units, want.Steps, 100, want)
	runs(t, name, units, want.Steps+1, 100, want)
}

func TestRunExamples(t *testing.T) {
	m := encoded(t, api.Unit{Funcs: []api.Func{{Code: assembled("Small 6; Small 7; Mul; Ret")}}, Exports: []api.Export{{Name: "main"}}})
	runs(t, "M", m, 9, 0, halted(42, 4))
	runs(t, "M", m, 3, 0, ended(api.NoFuel, 3))
	pair := encoded(t, api.Unit{Shapes: [][]int{{0, 1}}, Funcs: []api.Func{{Code: assembled("Small 5; Nil 1; New 1; Get 1 0; Ret")}}, Exports: []api.Export{{Name: "main"}}})
	runs(t, "a block", pair, 9, 3, halted(5, 5))
	runs(t, "a block", pair, 9, 2, ended(api.NoHeap, 3))
	fault := encoded(t, api.Unit{Shapes: [][]int{{0, 1}}, Funcs: []api.Func{{Code: assembled("Nil 1; Get 1 0; Ret")}}, Exports: []api.Export{{Name: "main"}}})
	runs(t, "a fault", fault, 9, 9, ended(api.Fault, 2))
}

func TestRunInstructions(t *testing.T) {
	runRows(t, []runRow{
		{"Const 0; Ret", halted(mostNumber, 2)}, {"Const 1; Ret", halted(leastNumber, 2)}, {"Const 2; Ret", halted(1<<32, 2)},
		{"Small -2147483648; Ret", halted(-2147483648, 2)}, {"Small 2147483647; Ret", halted(2147483647, 2)},
		// Locals begin as 0 or Nil; each slot is its own.
		{"Load 0; Out; Load 3; Out; Load 1; IsNil 1; Out; Load 2; IsNil 2; Ret", halted(1, 10, 0, 0, 1)},
		{"Small 4; Store 0; Small 5; Store 3; Load 0; Out; Load 3; Ret", halted(5, 8, 4)},
		{"Small 4; Store 0; Load 0; Small 5; Store 0; Ret", halted(4, 6)},
		{"Small 1; Small 2; Pop; Ret", halted(1, 4)},
		{"Small 3; Small 7; Dup; Out; Out; Ret", halted(3, 6, 7, 7)},
		// What jumps, and what does not.
		{"Jump 2; Out; Small 1; Ret", halted(1, 3)}, {"Jump 3; Small 1; Ret; Jump 1", halted(1, 4)},
		{"Small 0; Zero 4; Small 7; Ret; Small 8; Ret", halted(8, 4)}, {"Small 1; Zero 4; Small 7; Ret; Small 8; Ret", halted(7, 4)}, {"Small -1; Zero 4; Small 7; Ret; Small 8; Ret", halted(7, 4)}, {"Const 1; Zero 4; Small 7; Ret; Small 8; Ret", halted(7, 4)}, {"Const 2; Zero 4; Small 7; Ret; Small 8; Ret", halted(7, 4)},
		{"Jump 3; Small 9; Ret; Small 0; Zero 1; Small 8; Ret", halted(9, 5)},
		{"Nil 1; IsNil 1; Ret", halted(1, 3)}, {"Small 1; Nil 1; New 1; IsNil 1; Ret", halted(0, 5)},
		{"Small 3; Small 1; Out; Small 2; Out; Ret", halted(3, 6, 1, 2)},
		// A loop: 3 + 2 + 1.
		{"Small 3; Store 0; Load 0; Zero 13; Load 3; Load 0; Add; Store 3; Load 0; Small -1; Add; Store 0; Jump 2; Load 3; Ret", halted(6, 2+3*11+2+2)},
	})
}

func TestRunNumbers(t *testing.T) {
	numbers := map[string]int{"Const 0": mostNumber, "Const 1": leastNumber, "Const 2": 1 << 32, "Small 0": 0, "Small 1": 1, "Small -1": -1, "Small 7": 7}
	for x, a := range numbers {
		for y, b := range numbers {
			for op, want := range map[string]int{"Add": a + b, "Sub": a - b, "Mul": a * b, "Less": b2i(a < b), "Equal": b2i(a == b)} {
				code := x + "; " + y + "; " + op + "; Ret"
				runs(t, code, encoded(t, program(mainly(code))), 4, 0, halted(want, 4))
			}
		}
	}
	for _, c := range []runRow{
		{"Const 0; Small 1; Add; Ret", halted(leastNumber, 4)}, {"Const 1; Small 1; Sub; Ret", halted(mostNumber, 4)}, {"Const 0; Small 2; Mul; Ret", halted(-2, 4)}, {"Const 1; Small -1; Mul; Ret", halted(leastNumber, 4)}, {"Const 2; Const 2; Mul; Ret", halted(0, 4)}, {"Const 1; Const 0; Less; Ret", halted(1, 4)},
	} {
		runs(t, c.code, encoded(t, program(mainly(c.code))), 4, 0, c.want)
	}
}

func TestRunFields(t *testing.T) {
	runRows(t, []runRow{
		{pair + "Get 1 0; Ret", halted(5, 5)}, {pair + "Get 1 1; IsNil 1; Ret", halted(1, 6)},
		{four + "Get 2 2; Ret", halted(5, 6)}, {four + "Get 2 1; IsNil 2; Ret", halted(1, 7)},
		// The last field was on top, and what was below stays.
		{"Small 9; " + pair + pair + "Pop; Get 1 0; Sub; Ret", halted(4, 11)},
		{"Small 7; " + pair + "New 1; Dup; Get 1 0; Out; Get 1 1; Get 1 0; Ret", halted(5, 11, 7)},
		// A block is one thing, however many refer to it.
		{pair + "Dup; Store 1; Dup; Small 8; Set 1 0; Get 1 0; Out; Load 1; Get 1 0; Ret", halted(8, 13, 8)},
		{pair + "Store 1; Load 1; Small 8; Set 1 0; " + pair + "Get 1 0; Out; Load 1; Get 1 0; Ret", halted(8, 15, 5)},
		// Fields are apart from each other and from the stack on which they were.
		{pair + "Store 1; Load 1; Load 1; Set 1 1; Load 1; Get 1 1; Get 1 1; Get 1 0; Ret", halted(5, 12)},
		{four + "Store 2; Load 2; Small 4; Set 2 2; Load 2; Load 2; Set 2 1; Load 2; Get 2 1; Get 2 2; Out; Load 2; Get 2 0; IsNil 1; Ret", halted(1, 19, 4)},
		{"Small 1; Small 2; Nil 1; New 1; Small 3; Out; Small 4; Small 4; Pop; Pop; Get 1 0; Out; Ret", halted(1, 13, 3, 2)},
		// Faults.
		{"Nil 1; Get 1 0; Ret", ended(api.Fault, 2)}, {"Nil 2; Get 2 2; Ret", ended(api.Fault, 2)}, {"Load 1; Get 1 1; IsNil 1; Ret", ended(api.Fault, 2)},
		{"Nil 1; Small 1; Set 1 0; Small 1; Ret", ended(api.Fault, 3)}, {"Load 2; Nil 1; Set 2 0; Small 1; Ret", ended(api.Fault, 3)},
		{"Small 3; Out; " + pair + "Get 1 1; Get 1 0; Ret", ended(api.Fault, 7, 3)},
		// A field may be set to Nil.
		{pair + "Store 1; Load 1; Nil 1; Set 1 1; Load 1; Get 1 0; Ret", halted(5, 10)},
	})
}

func TestRunCalls(t *testing.T) {
	others := []api.Func{
		// 1 tells its Params, and gives the first one.
		{Params: []int{0, 0, 0}, Code: assembled("Load 2; Out; Load 1; Out; Load 0; Ret")},
		// 2 writes into its slots, and gives what was in its Local.
		{Params: []int{0}, Locals: []int{0}, Code: assembled("Load 1; Small 9; Store 0; Small 9; Store 1; Ret")},
		// 3 gives a block of its Params.
		{Params: []int{0, 1}, Result: 1, Code: assembled("Load 0; Load 1; New 1; Ret")},
		// 4 writes into a block.
		{Params: []int{1}, Code: assembled("Load 0; Small 8; Set 1 0; Small 0; Ret")},
		// 5 has as many Params and Locals as can be.
		{Params: filled(6, 0), Locals: filled(10, 0), Code: assembled("Small 7; Store 15; Load 0; Load 5; Sub; Load 6; Add; Load 15; Add; Ret")},
	}
	runRows(t, []runRow{
		{"Small 1; Small 2; Small 3; Call 1; Ret", halted(1, 11, 3, 2)},
		{"Small 7; Small 1; Small 2; Small 3; Call 1; Sub; Ret", halted(6, 13, 3, 2)},
		// A frame's slots are its own, and new for each call.
		{"Small 4; Store 0; Load 0; Call 2; Out; Load 0; Call 2; Out; Load 0; Ret", halted(4, 22, 0, 0)},
		{"Small 5; Nil 1; Call 3; Dup; Call 4; Out; Get 1 0; Ret", halted(8, 17, 0)},
		{"Small 6; Small 5; Nil 1; Call 3; Call 3; Get 1 1; Get 1 0; Ret", halted(5, 16)},
		{"Small 20; Small 2; Small 3; Small 4; Small 5; Small 1; Call 5; Ret", halted(26, 18)},
		// A fault in a function ends all.
		{"Small 3; Out; Nil 1; Call 4; Ret", ended(api.Fault, 7, 3)},
	}, others...)
}

func TestRunDepth(t *testing.T) {
	// The function calls itself down to 0; main's frame is one, too.
	down := api.Func{Params: []int{0}, Code: assembled("Load 0; Zero 8; Load 0; Small 1; Sub; Call 1; Small 1; Jump 10; Small 0; Ret; Add; Ret")}
	for calls := range api.MaxDepth + 3 {
		u := program(mainly("Small "+strconv.Itoa(calls)+"; Call 1; Ret"), down)
		o := kiln.Run(encoded(t, u), 100000, 0)
		// Of calls + 1 frames of the function each but the last one takes ten steps.
		want := halted(calls, 3+10*calls+4)
		if calls+2 > api.MaxDepth {
			want = ended(api.TooDeep, 2+6*(api.MaxDepth-1))
		}
		if !sameOutcome(o, want) {
			t.Errorf("P7: %d calls one in another: %+v, want %+v", calls, o, want)
		}
	}
	endless := encoded(t, program(mainly("Call 0; Ret")))
	runs(t, "calls without end", endless, 1000, 0, ended(api.TooDeep, 100))
	runs(t, "calls without end", endless, 100, 0, ended(api.TooDeep, 100))
	runs(t, "calls without end", endless, 99, 0, ended(api.NoFuel, 99))
	// Frames that have ended count no more.
	often := encoded(t, program(mainly("Small 300; Store 0; Load 0; Zero 10; Load 0; Call 1; Out; Call 2; Store 0; Jump 2; Small 1; Ret"),
		api.Func{Params: []int{0}, Code: assembled("Load 0; Ret")}, api.Func{Code: assembled("Small 1; Ret")}))
	o := kiln.Run(often, 1000, 0)
	if o.Why != api.NoFuel || len(o.Told) < 80 || o.Told[0] != 300 || o.Told[79] != 1 {
		t.Errorf("P7: many calls one behind the other: %+v", o)
	}
}

// The numbers behind the first MaxTold are lost, and the run goes on.
func TestRunTold(t *testing.T) {
	for _, count := range []int{0, 1, api.MaxTold - 1, api.MaxTold, api.MaxTold + 1, 3 * api.MaxTold} {
		u := program(mainly("Small " + strconv.Itoa(count) + "; Store 0; Load 0; Zero 11; Load 0; Dup; Out; Small 1; Sub; Store 0; Jump 2; Small 7; Ret"))
		want := halted(7, 2+9*count+2+2)
		for n := range min(count, api.MaxTold) {
			want.Told = append(want.Told, count-n)
		}
		runs(t, strconv.Itoa(count)+" numbers", encoded(t, u), api.MaxFuel, 0, want)
	}
}

func TestRunFuel(t *testing.T) {
	loop := encoded(t, program(mainly("Jump 0")))
	for _, fuel := range []int{0, 1, 2, api.MaxFuel - 1, api.MaxFuel} {
		runs(t, "a loop", loop, fuel, 0, ended(api.NoFuel, fuel))
	}
	runs(t, "no fuel, where no heap would end it", encoded(t, program(mainly("Small 1; Nil 1; New 1; Get 1 0; Ret"))), 2, 0, ended(api.NoFuel, 2))
}

func TestRunBadArgs(t *testing.T) {
	good := encoded(t, program(mainly("Small 1; Ret")))
	for _, units := range [][]string{good, nil, {"x"}, {good[0], good[0]}, encoded(t, program(mainly("Ret"))), encoded(t, api.Unit{})} {
		for _, n := range []int{leastNumber, -1, api.MaxFuel + 1, mostNumber} {
			runs(t, "wrong fuel", units, n, 0, ended(api.BadArgs, 0))
			runs(t, "wrong fuel", units, n, api.MaxHeap+1, ended(api.BadArgs, 0))
		}
		for _, n := range []int{leastNumber, -1, api.MaxHeap + 1, api.MaxFuel, mostNumber} {
			runs(t, "wrong heap", units, 0, n, ended(api.BadArgs, 0))
			runs(t, "wrong heap", units, api.MaxFuel, n, ended(api.BadArgs, 0))
		}
	}
	runs(t, "the least of both", good, 0, 0, ended(api.NoFuel, 0))
	runs(t, "the most of both", good, api.MaxFuel, api.MaxHeap, halted(1, 2))
}

func TestRunBadBytes(t *testing.T) {
	good := encoded(t, program(mainly("Small 1; Ret")))[0]
	long := strings.Repeat("x", api.MaxBytes+1)
	bad := func(e api.Errno, unit, at int) api.Outcome {
		return api.Outcome{Why: api.BadBytes, E: e, Unit: unit, At: at}
	}
	for k, c := range []struct {
		units []string
		want  api.Outcome
	}{
		{[]string{""}, bad(api.ErrForm, 0, 0)}, {[]string{"KILN\x01"}, bad(api.ErrForm, 0, 5)}, {[]string{good + "\x00"}, bad(api.ErrForm, 0, len(good))}, {[]string{good[:len(good)-1]}, bad(api.ErrForm, 0, len(good)-len(section(5, bodiesOf(program(mainly("Ret")))[4])))},
		{[]string{long}, bad(api.ErrLong, 0, 0)}, {[]string{good, long}, bad(api.ErrLong, 1, 0)},
		// The first one that is refused is told, ahead of all that Link would refuse.
		{[]string{good, "KILN\x01", long}, bad(api.ErrForm, 1, 5)}, {[]string{good, good, long, "x"}, bad(api.ErrLong, 2, 0)},
		{append(slices.Repeat([]string{good}, 6), "x"), bad(api.ErrForm, 6, 0)}, {append(slices.Repeat([]string{good}, 100), "KILN\x01"), bad(api.ErrForm, 100, 5)},
	} {
		runs(t, "bytes "+strconv.Itoa(k), c.units, 9, 9, c.want)
	}
}

func TestRunBadLink(t *testing.T) {
	main := program(mainly("Small 1; Ret"))
	other := program(mainly("Small 1; Ret"))
	other.Exports[0].Name = "other"
	with := func(change func(u *api.Unit)) api.Unit {
		u := plain(other)
		change(&u)
		return u
	}
	wrong := with(func(u *api.Unit) { u.Funcs[0].Code = assembled("Ret") })
	bad := func(e api.Errno, unit int) api.Outcome { return api.Outcome{Why: api.BadLink, E: e, Unit: unit} }
	for k, c := range []struct {
		units []api.Unit
		want  api.Outcome
	}{
		{nil, bad(api.ErrMany, 0)}, {slices.Repeat([]api.Unit{main}, 7), bad(api.ErrMany, 0)}, {slices.Repeat([]api.Unit{{}}, 8), bad(api.ErrMany, 0)}, {slices.Repeat([]api.Unit{wrong}, 100), bad(api.ErrMany, 0)},
		{[]api.Unit{main, other, {}}, bad(api.ErrShapes, 2)},
		{[]api.Unit{main, other, main}, bad(api.ErrTwice, 2)},
		{[]api.Unit{main, with(func(u *api.Unit) { u.Imports = []api.Import{{Name: "none"}} })}, bad(api.ErrNone, 1)},
		{[]api.Unit{main, with(func(u *api.Unit) { u.Imports = []api.Import{{Name: "main", Result: 1}} })}, bad(api.ErrSig, 1)},
		{[]api.Unit{main, with(func(u *api.Unit) { u.Consts = filled(48, 0) })}, bad(api.ErrBig, 0)},
		// Ahead of wrong code.
		{[]api.Unit{wrong, main, main}, bad(api.ErrTwice, 2)},
	} {
		runs(t, "units "+strconv.Itoa(k), encoded(t, c.units...), 9, 9, c.want)
	}
	six := []api.Unit{main}
	for len(six) < api.MaxUnits {
		six = append(six, api.Unit{Shapes: main.Shapes})
	}
	runs(t, "as many units as can be", encoded(t, six...), 9, 9, halted(1, 2))
}

func TestRunBadCode(t *testing.T) {
	bad := func(function, at int) api.Outcome {
		return api.Outcome{Why: api.BadCode, E: api.ErrCode, Unit: function, At: at}
	}
	main := program(mainly("Small 1; Ret"), mainly("Small 1; Ret"))
	second := program(mainly("Small 1; Ret"), mainly("Small 1; Pop; Pop; Jump 0"))
	second.Exports = nil
	third := plain(second)
	third.Funcs[0].Code = assembled("Const 3; Ret")
	for k, c := range []struct {
		units []api.Unit
		want  api.Outcome
	}{
		{[]api.Unit{program(mainly("Small 1; Mul; Ret"))}, bad(0, 1)}, {[]api.Unit{program(mainly("Small 1"))}, bad(0, 0)}, {[]api.Unit{program(mainly("Small 1; Ret"), mainly("Ret"))}, bad(1, 0)},
		// The function is numbered as it is among all.
		{[]api.Unit{main, second}, bad(3, 2)}, {[]api.Unit{second, main}, bad(1, 2)},
		// Const 3 is none of its unit, whatever units are beside it.
		{[]api.Unit{main, third}, bad(2, 0)}, {[]api.Unit{third, main}, bad(0, 0)},
		// Ahead of there being no main.
		{[]api.Unit{second}, bad(1, 2)},
	} {
		runs(t, "code "+strconv.Itoa(k), encoded(t, c.units...), 0, 0, c.want)
	}
	// What is never come to is not wrong.
	runs(t, "wrong code that is not come to", encoded(t, program(mainly("Small 1; Ret; Mul; Call 77; Jump 99"))), 9, 9, halted(1, 2))
}

func TestRunNoMain(t *testing.T) {
	none := ended(api.NoMain, 0)
	fine := api.Func{Code: assembled("Small 1; Ret")}
	given := api.Func{Params: []int{0}, Code: assembled("Small 2; Ret")}
	reference := api.Func{Result: 1, Code: assembled("Nil 1; Ret")}
	for k, c := range []struct {
		funcs   []api.Func
		exports []api.Export
		want    api.Outcome
	}{
		{nil, nil, none}, {[]api.Func{fine}, nil, none},
		{[]api.Func{fine}, []api.Export{{Name: "Main"}, {Name: "main "}, {Name: "mai"}, {Name: "main\x00"}}, none},
		{[]api.Func{given}, []api.Export{{Name: "main"}}, none}, {[]api.Func{reference}, []api.Export{{Name: "main"}}, none},
		// Another that would do is not exported as main.
		{[]api.Func{fine, given}, []api.Export{{Name: "a"}, {Name: "main", Func: 1}}, none}, {[]api.Func{reference, fine}, []api.Export{{Name: "main"}, {Name: "a", Func: 1}}, none},
		{[]api.Func{given, reference, fine}, []api.Export{{Name: "a", Func: 1}, {Name: "main", Func: 2}, {Name: "b"}}, halted(1, 2)},
		{[]api.Func{mainly("Small 3; Ret")}, []api.Export{{Name: "main"}}, halted(3, 2)},
	} {
		u := program(c.funcs...)
		u.Exports = c.exports
		runs(t, "main "+strconv.Itoa(k), encoded(t, u), 9, 9, c.want)
	}
}

// Units that call each other, of which not the first one has main.
func TestRunSeveralUnits(t *testing.T) {
	lib := program(api.Func{Params: []int{0}, Code: assembled("Load 0; Const 2; Add; Ret")}, api.Func{Params: []int{0, 1}, Result: 1, Code: assembled("Load 0; Load 1; New 1; Ret")})
	lib.Consts = []int{1, 2, 100}
	lib.Exports = []api.Export{{Name: "pair", Func: 1}, {Name: "more"}}
	own := program(api.Func{Code: assembled("Const 0; Call 1; Nil 1; Call 3; Call 2; Ret")}, api.Func{Params: []int{0}, Code: assembled("Load 0; Call 4; Ret")}, api.Func{Params: []int{1}, Code: assembled("Load 0; Get 1 0; Ret")})
	own.Consts = []int{11}
	own.Imports = []api.Import{{Name: "pair", Params: []int{0, 1}, Result: 1}, {Name: "more", Params: []int{0}}}
	want := halted(111, 20)
	runs(t, "main behind", encoded(t, lib, own), 99, 3, want)
	runs(t, "main ahead", encoded(t, own, lib), 99, 3, want)
	runs(t, "another between", encoded(t, own, api.Unit{Shapes: own.Shapes, Consts: []int{5}}, lib), 99, 3, want)
	runs(t, "too little heap", encoded(t, lib, own), 99, 2, ended(api.NoHeap, 14))
}
