package kiln_test

import (
	"math/rand/v2"
	"slices"

	"kiln/api"
	"kiln/kiln"
)

func code(list ...api.Ins) []api.Ins { return list }

func constant(a int) api.Ins { return api.Ins{Op: api.Const, A: a} }

func call(a int) api.Ins { return api.Ins{Op: api.Call, A: a} }

// trio is three units that link: each has a const, two functions and two exports, and imports a name of the unit behind it (the last one, of the first).
func trio() []api.Unit {
	var units []api.Unit
	for i := range 3 {
		own, next := string(rune('a'+i)), string(rune('a'+(i+1)%3))
		units = append(units, api.Unit{
			Shapes: [][]int{{0, 1}, {2}},
			Consts: []int{10 * i},
			Funcs: []api.Func{
				{Params: []int{0, 1}, Result: 2, Locals: []int{1}, Code: code(constant(0), call(2), api.Ins{Op: api.Ret})},
				{Code: code(call(0), api.Ins{Op: api.Ret})},
			},
			Imports: []api.Import{{Name: next + "2", Params: []int{0, 1}, Result: 2}},
			Exports: []api.Export{{Name: own + "1", Func: 1}, {Name: own + "2", Func: 0}},
		})
	}
	return units
}

// functionOf finds an exported function: the unit's number, and its number there.
func functionOf(units []api.Unit, name string) (int, int, bool) {
	for i, u := range units {
		for _, e := range u.Exports {
			if e.Name == name {
				return i, e.Func, true
			}
		}
	}
	return 0, 0, false
}

// linked does what P5 says, question by question, as a second opinion.
func linked(units []api.Unit) (api.Unit, api.Errno, int) {
	if len(units) < 1 || len(units) > 6 {
		return api.Unit{}, api.ErrMany, 0
	}
	questions := []struct {
		e     api.Errno
		wrong func(i int) bool
	}{
		{api.ErrUnit, func(i int) bool {
			_, e := kiln.Encode(units[i])
			return e == api.ErrUnit
		}},
		{api.ErrShapes, func(i int) bool {
			return bodiesOf(units[i])[0] != bodiesOf(units[0])[0]
		}},
		{api.ErrTwice, func(i int) bool {
			return slices.ContainsFunc(units[i].Exports, func(e api.Export) bool {
				count := 0
				for _, u := range units[:i+1] {
					for _, other := range u.Exports {
						if other.Name == e.Name {
							count++
						}
					}
				}
				return count > 1
			})
		}},
		{api.ErrNone, func(i int) bool {
			return slices.ContainsFunc(units[i].Imports, func(m api.Import) bool {
				_, _, ok := functionOf(units, m.Name)
				return !ok
			})
		}},
		{api.ErrSig, func(i int) bool {
			return slices.ContainsFunc(units[i].Imports, func(m api.Import) bool {
				k, n, _ := functionOf(units, m.Name)
				f := units[k].Funcs[n]
				return !slices.Equal(f.Params, m.Params) || f.Result != m.Result
			})
		}},
	}
	for _, q := range questions {
		for i := range units {
			if q.wrong(i) {
				return api.Unit{}, q.e, i
			}
		}
	}
	u := together(units)
	if len(u.Funcs) > 30 || len(u.Consts) > 50 || len(u.Exports) > 20 {
		return api.Unit{}, api.ErrBig, 0
	}
	return u, api.OK, 0
}

// together is the one unit of units to which no error applies.
func together(units []api.Unit) api.Unit {
	all := api.Unit{Shapes: plain(units[0]).Shapes}
	constsBefore, funcsBefore := make([]int, len(units)), make([]int, len(units))
	for i, u := range units {
		constsBefore[i], funcsBefore[i] = len(all.Consts), len(all.Funcs)
		all.Consts = append(all.Consts, u.Consts...)
		all.Funcs = append(all.Funcs, plain(u).Funcs...)
		for _, e := range u.Exports {
			all.Exports = append(all.Exports, api.Export{Name: e.Name, Func: funcsBefore[i] + e.Func})
		}
	}
	for i, u := range units {
		// What every number of the unit's becomes.
		var consts, funcs []int
		for n := range u.Consts {
			consts = append(consts, constsBefore[i]+n)
		}
		for n := range u.Funcs {
			funcs = append(funcs, funcsBefore[i]+n)
		}
		for _, m := range u.Imports {
			k, n, _ := functionOf(units, m.Name)
			funcs = append(funcs, funcsBefore[k]+n)
		}
		for n := range u.Funcs {
			for k, ins := range all.Funcs[funcsBefore[i]+n].Code {
				become := map[int][]int{api.Const: consts, api.Call: funcs}
				list, ok := become[ins.Op]
				if !ok {
					continue
				}
				a := &all.Funcs[funcsBefore[i]+n].Code[k].A
				if *a = 65535; ins.A < len(list) {
					*a = list[ins.A]
				}
			}
		}
	}
	return all
}

// randomUnits are units that often link, and else fail in all ways.
func randomUnits(r *rand.Rand) []api.Unit {
	units := make([]api.Unit, 1+r.IntN(6))
	shapes := [][]int{{0, 1}, {2}}
	names := 0
	for i := range units {
		u := &units[i]
		u.Shapes = plain(api.Unit{Shapes: shapes}).Shapes
		for range r.IntN(4) {
			u.Consts = append(u.Consts, r.IntN(100))
		}
		for range r.IntN(5) {
			f := api.Func{Result: r.IntN(3), Locals: make([]int, r.IntN(3))}
			for range r.IntN(3) {
				f.Params = append(f.Params, r.IntN(3))
			}
			for range 1 + r.IntN(5) {
				f.Code = append(f.Code, []api.Ins{constant(r.IntN(6)), call(r.IntN(8)), randomIns(r)}[r.IntN(3)])
			}
			u.Funcs = append(u.Funcs, f)
		}
		if len(u.Funcs) > 0 {
			for range r.IntN(4) {
				u.Exports = append(u.Exports, api.Export{Name: string(rune('a' + names)), Func: r.IntN(len(u.Funcs))})
				names++
			}
		}
	}
	for i := range units {
		for range r.IntN(4) {
			name := string(rune('a' + r.IntN(names+1)))
			if k, n, ok := functionOf(units, name); ok {
				f := units[k].Funcs[n]
				units[i].Imports = append(units[i].Imports, api.Import{Name: name, Params: slices.Clone(f.Params), Result: f.Result})
			}
		}
	}
	for range r.IntN(3) {
		spoil(r, &units[r.IntN(len(units))])
	}
	return units
}

func spoil(r *rand.Rand, u *api.Unit) {
	switch r.IntN(8) {
	case 0:
		u.Consts = append(u.Consts, make([]int, r.IntN(51))...)
	case 1:
		u.Shapes[r.IntN(2)][0] = r.IntN(4)
	case 2:
		u.Exports = append(u.Exports, api.Export{Name: string(rune('a' + r.IntN(8))), Func: r.IntN(2)})
	case 3:
		u.Imports = append(u.Imports, api.Import{Name: string(rune('a' + r.IntN(30)))})
	case 4:
		if len(u.Imports) > 0 {
			u.Imports[0].Result = r.IntN(3)
		}
	case 5:
		if len(u.Imports) > 0 {
			u.Imports[len(u.Imports)-1].Params = make([]int, r.IntN(3))
		}
	case 6:
		for range r.IntN(30) {
			u.Funcs = append(u.Funcs, api.Func{Code: code(call(r.IntN(20)))})
		}
	case 7:
		for range r.IntN(20) {
			u.Exports = append(u.Exports, api.Export{Name: "x" + string(rune('a'+len(u.Exports)))})
		}
	}
}
