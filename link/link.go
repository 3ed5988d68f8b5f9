// Package link makes one unit of several. What it can't link it gives up, by a panic with a giveup.Refusal.
package link

import (
	"slices"

	"kiln/api"
	"kiln/giveup"
	"kiln/wellformed"
)

// Units tells the one unit. It gives up with the first error that applies to any of them, and the number of the first unit to which it applies.
func Units(units []api.Unit) api.Unit {
	giveup.Refusal{E: api.ErrMany}.Unless(1 <= len(units) && len(units) <= api.MaxUnits)
	// A round over all units for each error, since of two errors the one named first is told, whatever units they are in.
	each(units, api.ErrUnit, wellformed.Unit)
	each(units, api.ErrShapes, func(u api.Unit, why giveup.Refusal) {
		why.Unless(slices.EqualFunc(u.Shapes, units[0].Shapes, slices.Equal[[]int]))
	})
	names := exported(units)
	each(units, api.ErrNone, names.allThere)
	each(units, api.ErrSig, names.allAlike)
	giveup.Refusal{E: api.ErrBig}.Unless(fewTogether(units))
	return joined(units, names)
}

func each(units []api.Unit, e api.Errno, ask func(u api.Unit, why giveup.Refusal)) {
	for i, u := range units {
		ask(u, giveup.Refusal{E: e, At: i})
	}
}

func fewTogether(units []api.Unit) bool {
	funcs, consts, exports := 0, 0, 0
	for _, u := range units {
		funcs += len(u.Funcs)
		consts += len(u.Consts)
		exports += len(u.Exports)
	}
	return funcs <= api.MaxFuncs && consts <= api.MaxConsts && exports <= api.MaxNames
}
