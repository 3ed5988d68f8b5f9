package look

import (
	"slices"

	"kiln/api"
	"kiln/giveup"
)

// number is the kind of whole numbers.
const number = 0

// effect is of which kinds the values are that an instruction takes from the stack, the last one on top, and that it puts there.
type effect struct {
	takes, puts []int
}

// scope is what a function's instructions can name.
type scope struct {
	unit         api.Unit
	slots        []int
	instructions int
	result       int
}

func scopeOf(u api.Unit, f api.Func) scope {
	return scope{unit: u, slots: slices.Concat(f.Params, f.Locals), instructions: len(f.Code), result: f.Result}
}

// effect gives up with why, if an operand is none. It asks the stack only where the kinds hang on what is on top.
func (s scope) effect(i api.Ins, stack []int, why giveup.Refusal) effect {
	switch i.Op {
	case api.Const:
		why.Unless(i.A < len(s.unit.Consts))
		return effect{puts: kinds(number)}
	case api.Small:
		return effect{puts: kinds(number)}
	case api.Load:
		return effect{puts: kinds(s.slot(i.A, why))}
	case api.Store:
		return effect{takes: kinds(s.slot(i.A, why))}
	case api.Pop:
		return effect{takes: kinds(top(stack, why))}
	case api.Dup:
		kind := top(stack, why)
		return effect{takes: kinds(kind), puts: kinds(kind, kind)}
	case api.Add, api.Sub, api.Mul, api.Less, api.Equal:
		return effect{takes: kinds(number, number), puts: kinds(number)}
	case api.Jump:
		why.Unless(i.A < s.instructions)
	case api.Zero:
		why.Unless(i.A < s.instructions)
		return effect{takes: kinds(number)}
	case api.Call:
		params, result := s.function(i.A, why)
		return effect{takes: params, puts: kinds(result)}
	case api.Ret:
		return effect{takes: kinds(s.result)}
	case api.New:
		return effect{takes: s.fields(i.A, why), puts: kinds(i.A)}
	case api.Get:
		return effect{takes: kinds(i.A), puts: kinds(s.field(i, why))}
	case api.Set:
		return effect{takes: kinds(i.A, s.field(i, why))}
	case api.Nil:
		s.fields(i.A, why)
		return effect{puts: kinds(i.A)}
	case api.IsNil:
		s.fields(i.A, why)
		return effect{takes: kinds(i.A), puts: kinds(number)}
	case api.Out:
		return effect{takes: kinds(number)}
	}
	return effect{}
}

func kinds(list ...int) []int { return list }

func top(stack []int, why giveup.Refusal) int {
	why.Unless(len(stack) > 0)
	return stack[len(stack)-1]
}

func (s scope) slot(a int, why giveup.Refusal) int {
	why.Unless(a < len(s.slots))
	return s.slots[a]
}

func (s scope) function(a int, why giveup.Refusal) (params []int, result int) {
	own := len(s.unit.Funcs)
	why.Unless(a < own+len(s.unit.Imports))
	if a < own {
		return s.unit.Funcs[a].Params, s.unit.Funcs[a].Result
	}
	i := s.unit.Imports[a-own]
	return i.Params, i.Result
}

func (s scope) fields(shape int, why giveup.Refusal) []int {
	why.Unless(1 <= shape && shape <= len(s.unit.Shapes))
	return s.unit.Shapes[shape-1]
}

func (s scope) field(i api.Ins, why giveup.Refusal) int {
	fields := s.fields(i.A, why)
	why.Unless(i.B < len(fields))
	return fields[i.B]
}
