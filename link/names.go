package link

import (
	"slices"

	"kiln/api"
	"kiln/giveup"
)

// target is an exported function, and its number among the Funcs of all units.
type target struct {
	function api.Func
	number   int
}

// targets are the exported functions of all units by their names.
type targets map[string]target

func exported(units []api.Unit) targets {
	names := targets{}
	funcs := 0
	each(units, api.ErrTwice, func(u api.Unit, why giveup.Refusal) {
		for _, e := range u.Exports {
			_, twice := names[e.Name]
			why.Unless(!twice)
			names[e.Name] = target{function: u.Funcs[e.Func], number: funcs + e.Func}
		}
		funcs += len(u.Funcs)
	})
	return names
}

func (names targets) allThere(u api.Unit, why giveup.Refusal) {
	for _, i := range u.Imports {
		_, there := names[i.Name]
		why.Unless(there)
	}
}

func (names targets) allAlike(u api.Unit, why giveup.Refusal) {
	for _, i := range u.Imports {
		f := names[i.Name].function
		why.Unless(slices.Equal(i.Params, f.Params) && i.Result == f.Result)
	}
}
