// Package wellformed has the bounds of a unit, part by part, so that what is written, read, linked and looked through is held to the same ones.
package wellformed

import (
	"kiln/api"
	"kiln/giveup"
)

const (
	leastSmall = -2147483648
	mostSmall  = 2147483647
)

// Unit gives up with why, if the unit is not well formed.
func Unit(u api.Unit, why giveup.Refusal) {
	Shapes(u.Shapes, why)
	Consts(u.Consts, why)
	Funcs(u.Funcs, len(u.Shapes), why)
	Imports(u.Imports, len(u.Shapes), why)
	Exports(u.Exports, len(u.Funcs), why)
}

// Shapes gives up with why, if a unit can't have these.
func Shapes(shapes [][]int, why giveup.Refusal) {
	why.Unless(within(len(shapes), 0, api.MaxShapes))
	for _, fields := range shapes {
		why.Unless(within(len(fields), 1, api.MaxFields))
		kinds(fields, len(shapes), why)
	}
}

// Consts gives up with why, if a unit can't have these.
func Consts(consts []int, why giveup.Refusal) {
	why.Unless(within(len(consts), 0, api.MaxConsts))
}

// Funcs gives up with why, if a unit of so many shapes can't have these.
func Funcs(funcs []api.Func, shapes int, why giveup.Refusal) {
	why.Unless(within(len(funcs), 0, api.MaxFuncs))
	for _, f := range funcs {
		signature(f.Params, f.Result, shapes, why)
		why.Unless(within(len(f.Locals), 0, api.MaxLocals))
		kinds(f.Locals, shapes, why)
		code(f.Code, why)
	}
}

// Imports gives up with why, if a unit of so many shapes can't have these.
func Imports(imports []api.Import, shapes int, why giveup.Refusal) {
	why.Unless(within(len(imports), 0, api.MaxNames))
	for _, i := range imports {
		name(i.Name, why)
		signature(i.Params, i.Result, shapes, why)
	}
}

// Exports gives up with why, if a unit of so many Funcs can't have these.
func Exports(exports []api.Export, funcs int, why giveup.Refusal) {
	why.Unless(within(len(exports), 0, api.MaxNames))
	for _, e := range exports {
		name(e.Name, why)
		why.Unless(within(e.Func, 0, funcs-1))
	}
}

// Op tells whether there is such an instruction.
func Op(op int) bool {
	return within(op, api.Const, api.Out)
}

// Operands is how many operands of the instruction are named: none, A, or A and B.
func Operands(op int) int {
	switch op {
	case api.Get, api.Set:
		return 2
	case api.Const, api.Small, api.Load, api.Store, api.Jump, api.Zero, api.Call, api.New, api.Nil, api.IsNil:
		return 1
	}
	return 0
}

func within(v, least, most int) bool {
	return least <= v && v <= most
}

func kinds(list []int, shapes int, why giveup.Refusal) {
	for _, k := range list {
		why.Unless(within(k, 0, shapes))
	}
}

func signature(params []int, result int, shapes int, why giveup.Refusal) {
	why.Unless(within(len(params), 0, api.MaxParams))
	kinds(params, shapes, why)
	why.Unless(within(result, 0, shapes))
}

func name(text string, why giveup.Refusal) {
	why.Unless(within(len(text), 1, api.MaxName))
}

func code(list []api.Ins, why giveup.Refusal) {
	why.Unless(within(len(list), 1, api.MaxCode))
	for _, i := range list {
		why.Unless(Op(i.Op))
		if i.Op == api.Small {
			why.Unless(within(i.A, leastSmall, mostSmall))
		} else {
			operand(i.A, Operands(i.Op) >= 1, why)
		}
		operand(i.B, Operands(i.Op) >= 2, why)
	}
}

func operand(v int, named bool, why giveup.Refusal) {
	if named {
		why.Unless(within(v, 0, api.MaxOperand))
	} else {
		why.Unless(v == 0)
	}
}
