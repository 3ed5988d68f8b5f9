package kiln_test

import (
	"math/rand/v2"
	"slices"
	"strconv"
	"strings"

	"kiln/api"
	"kiln/kiln"
)

// assembled reads code as the document writes it: "Small 6; Get 1 0; Ret".
func assembled(text string) []api.Ins {
	names := strings.Fields("Const Small Load Store Pop Dup Add Sub Mul Less Equal Jump Zero Call Ret New Get Set Nil IsNil Out")
	var list []api.Ins
	for _, line := range strings.Split(text, ";") {
		words := strings.Fields(line)
		var operands [2]int
		for k, w := range words[1:] {
			operands[k], _ = strconv.Atoi(w)
		}
		list = append(list, api.Ins{Op: slices.Index(names, words[0]), A: operands[0], B: operands[1]})
	}
	return list
}

// repeated is code of n times the same instructions.
func repeated(n int, text string) string {
	return strings.Repeat(text+"; ", n)
}

// around is a unit with this code in function 0, of the slots 0, 2, 1, 0. Function 1 takes 0, 1 and gives 2; function 2 gives 0; import 3 takes 2 and gives 1; import 4 gives 2.
func around(text string) api.Unit {
	return api.Unit{
		Shapes: [][]int{{0, 1, 2}, {2}},
		Consts: []int{5, 6},
		Funcs: []api.Func{
			{Params: []int{0, 2}, Locals: []int{1, 0}, Code: assembled(text)},
			{Params: []int{0, 1}, Result: 2, Code: assembled("Nil 2; Ret")},
			{Code: assembled("Small 0; Ret")},
		},
		Imports: []api.Import{{Name: "f", Params: []int{2}, Result: 1}, {Name: "g", Result: 2}},
	}
}

// tableRow is the document's table of what an instruction takes and puts, a letter for each value: n a number, s of slot A's kind, x any, p as the Params are, r the Result of what is called, o the own Result, f as the fields are, a of kind A, b of field B's kind.
func tableRow(op int) (takes, puts string) {
	switch op {
	case api.Const, api.Small:
		return "", "n"
	case api.Load:
		return "", "s"
	case api.Store:
		return "s", ""
	case api.Pop:
		return "x", ""
	case api.Dup:
		return "x", "xx"
	case api.Zero, api.Out:
		return "n", ""
	case api.Call:
		return "p", "r"
	case api.Ret:
		return "o", ""
	case api.New:
		return "f", "a"
	case api.Get:
		return "a", "b"
	case api.Set:
		return "ab", ""
	case api.Nil:
		return "", "a"
	case api.IsNil:
		return "a", "n"
	case api.Jump:
		return "", ""
	}
	return "nn", "n"
}

// asText is a list of kinds, a byte for each.
func asText(kinds ...int) string {
	var b strings.Builder
	for _, k := range kinds {
		b.WriteByte(byte('0' + k))
	}
	return b.String()
}

// behindIt is the stack behind the instruction, the kinds of which are a text, as a second opinion. It is not ok, if the instruction is wrong, whatever comes next.
func behindIt(u api.Unit, f api.Func, i api.Ins, stack string) (behind string, ok bool) {
	const none = "none"
	if i.Op == api.Small {
		i.A = 0 // It names nothing.
	}
	letters := map[rune]string{'n': "0", 'o': asText(f.Result), 's': none, 'x': none, 'p': none, 'r': none, 'f': none, 'a': none, 'b': none}
	if slots := asText(f.Params...) + asText(f.Locals...); i.A < len(slots) {
		letters['s'] = slots[i.A : i.A+1]
	}
	if stack != "" {
		letters['x'] = stack[len(stack)-1:]
	}
	if all := signatures(u); i.A < len(all) {
		letters['p'], letters['r'] = asText(all[i.A].Params...), asText(all[i.A].Result)
	}
	if 1 <= i.A && i.A <= len(u.Shapes) {
		fields := asText(u.Shapes[i.A-1]...)
		letters['f'], letters['a'] = fields, asText(i.A)
		if i.B < len(fields) {
			letters['b'] = fields[i.B : i.B+1]
		}
	}
	takes, puts := tableRow(i.Op)
	for _, c := range takes + puts {
		if letters[c] == none {
			return "", false
		}
	}
	spell := func(row string) (text string) {
		for _, c := range row {
			text += letters[c]
		}
		return text
	}
	below, found := strings.CutSuffix(stack, spell(takes))
	behind = below + spell(puts)
	switch {
	case !found, len(behind) > 20:
		return "", false
	case i.Op == api.Const && i.A >= len(u.Consts), (i.Op == api.Jump || i.Op == api.Zero) && i.A >= len(f.Code):
		return "", false
	case i.Op == api.Ret && below != "":
		return "", false
	}
	return behind, true
}

// signatures are all functions, as far as a call asks.
func signatures(u api.Unit) []api.Import {
	var all []api.Import
	for _, f := range u.Funcs {
		all = append(all, api.Import{Params: f.Params, Result: f.Result})
	}
	return append(all, u.Imports...)
}

// lookedThrough does what P6 says, as a second opinion.
func lookedThrough(u api.Unit) (api.Errno, int, int) {
	if _, e := kiln.Encode(u); e == api.ErrUnit {
		return api.ErrUnit, 0, 0
	}
	for n, f := range u.Funcs {
		if at := firstWrong(u, f); at >= 0 {
			return api.ErrCode, n, at
		}
	}
	return api.OK, 0, 0
}

// firstWrong is the first instruction that is wrong, or -1.
func firstWrong(u api.Unit, f api.Func) int {
	const never = "never come to"
	stacks, looked := make([]string, len(f.Code)), make([]bool, len(f.Code))
	for at := range stacks {
		stacks[at] = never
	}
	stacks[0] = ""
	for at := 0; at < len(f.Code); at++ {
		if stacks[at] == never || looked[at] {
			continue
		}
		looked[at] = true
		i := f.Code[at]
		behind, ok := behindIt(u, f, i, stacks[at])
		if !ok {
			return at
		}
		next := map[int][]int{api.Jump: {i.A}, api.Ret: {}, api.Zero: {at + 1, i.A}}
		list, special := next[i.Op]
		if !special {
			list = []int{at + 1}
		}
		for _, to := range list {
			if to == len(f.Code) {
				return at
			}
			if stacks[to] != never && stacks[to] != behind {
				return to
			}
			stacks[to] = behind
		}
		at = -1 // The least one is sought anew.
	}
	return -1
}

// nearIns is an instruction whose operands are mostly something.
func nearIns(r *rand.Rand) api.Ins {
	i := randomIns(r)
	if i.Op == api.Small {
		return i
	}
	if i.A != 0 {
		i.A = r.IntN(6)
	}
	if i.B != 0 {
		i.B = r.IntN(4)
	}
	return i
}

// soundCode is code for the function in which nothing is wrong.
func soundCode(r *rand.Rand, u api.Unit, f api.Func, length int) []api.Ins {
	stacks := []string{""} // stacks[k] is there ahead of instruction k.
	var list []api.Ins
	add := func(i api.Ins) {
		f.Code = append(list, i, i) // An instruction behind it, to which a jump can go.
		behind, ok := behindIt(u, f, i, stacks[len(list)])
		if ok {
			list, stacks = append(list, i), append(stacks, behind)
		}
	}
	for len(list) < length {
		i := nearIns(r)
		if i.Op == api.Ret {
			continue
		}
		if i.Op == api.Jump || i.Op == api.Zero {
			i.A = len(list)
		}
		add(i)
	}
	for stacks[len(list)] != "" {
		add(api.Ins{Op: api.Pop})
	}
	add([]api.Ins{{Op: api.Nil, A: f.Result}, {Op: api.Small, A: 1}}[b2i(f.Result == 0)])
	for k := range list {
		if op := list[k].Op; op == api.Jump || op == api.Zero {
			var targets []int
			for to := range list {
				if stacks[to] == stacks[k+1] {
					targets = append(targets, to)
				}
			}
			if len(targets) == 0 {
				targets = []int{k + 1}
			}
			list[k].A = targets[r.IntN(len(targets))]
		}
	}
	return append(list, api.Ins{Op: api.Ret})
}

func b2i(b bool) int {
	if b {
		return 1
	}
	return 0
}

// soundUnits are units that link, in which no instruction is wrong. The first one's function 0 is exported as main, which can be run.
func soundUnits(r *rand.Rand) []api.Unit {
	units := make([]api.Unit, 1+r.IntN(4))
	for i := range units {
		u := &units[i]
		u.Shapes = [][]int{{0, 1}, {2, 0, 1}, {3}}
		u.Consts = make([]int, r.IntN(4))
		for n := range 1 + r.IntN(3) {
			f := api.Func{Params: randomKinds(r, 4, 3), Locals: randomKinds(r, 4, 3), Result: r.IntN(4)}
			name := strconv.Itoa(10*i + n)
			if i == 0 && n == 0 {
				f.Params, f.Result, name = nil, 0, "main"
			}
			u.Funcs = append(u.Funcs, f)
			u.Exports = append(u.Exports, api.Export{Name: name, Func: n})
		}
	}
	for i := range units {
		u := &units[i]
		for range r.IntN(3) {
			from := units[r.IntN(len(units))]
			e := from.Exports[r.IntN(len(from.Exports))]
			f := from.Funcs[e.Func]
			u.Imports = append(u.Imports, api.Import{Name: e.Name, Params: f.Params, Result: f.Result})
		}
		for n := range u.Funcs {
			u.Funcs[n].Code = soundCode(r, *u, u.Funcs[n], r.IntN(30))
		}
	}
	return units
}

func randomKinds(r *rand.Rand, most, kinds int) []int {
	list := make([]int, r.IntN(most+1))
	for k := range list {
		list[k] = r.IntN(kinds + 1)
	}
	return list
}
