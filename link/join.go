package link

import (
	"strings"

	"kiln/api"
)

// noSuch stands for a number that its unit does not have: no unit has it, so it can't become one that another unit has.
const noSuch = 65535

func joined(units []api.Unit, names targets) api.Unit {
	var all api.Unit
	for _, fields := range units[0].Shapes {
		all.Shapes = append(all.Shapes, copied(fields))
	}
	for _, u := range units {
		m := mover{unit: u, names: names, consts: len(all.Consts), funcs: len(all.Funcs)}
		all.Consts = append(all.Consts, u.Consts...)
		for _, f := range u.Funcs {
			all.Funcs = append(all.Funcs, m.function(f))
		}
		for _, e := range u.Exports {
			all.Exports = append(all.Exports, m.export(e))
		}
	}
	return all
}

// mover turns a unit's numbers into those that they become among all units.
type mover struct {
	unit  api.Unit
	names targets
	// How many consts and functions stand before the unit's own.
	consts, funcs int
}

func (m mover) function(f api.Func) api.Func {
	code := copied(f.Code)
	for k := range code {
		m.renumber(&code[k])
	}
	return api.Func{Params: copied(f.Params), Result: f.Result, Locals: copied(f.Locals), Code: code}
}

func (m mover) export(e api.Export) api.Export {
	// A copy of the name, so that nothing of what was handed in is kept.
	return api.Export{Name: strings.Clone(e.Name), Func: m.funcs + e.Func}
}

func (m mover) renumber(i *api.Ins) {
	switch i.Op {
	case api.Const:
		i.A = m.constNumber(i.A)
	case api.Call:
		i.A = m.funcNumber(i.A)
	}
}

func (m mover) constNumber(n int) int {
	if n < len(m.unit.Consts) {
		return m.consts + n
	}
	return noSuch
}

func (m mover) funcNumber(n int) int {
	own := len(m.unit.Funcs)
	if n < own {
		return m.funcs + n
	}
	if n < own+len(m.unit.Imports) {
		return m.names[m.unit.Imports[n-own].Name].number
	}
	return noSuch
}

func copied[T any](list []T) []T {
	return append([]T(nil), list...)
}
