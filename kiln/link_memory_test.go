package kiln_test

import (
	"math/rand/v2"
	"reflect"
	"testing"

	"kiln/api"
	"kiln/kiln"
)

func roomyUnits(units []api.Unit) []api.Unit {
	list := append([]api.Unit(nil), units...)
	for i := range list {
		list[i] = roomy(list[i])
	}
	return spare(list, roomy(api.Unit{Consts: []int{mark}}))
}

func stretchedUnits(units []api.Unit) []api.Unit {
	list := append([]api.Unit(nil), units[:cap(units)]...)
	for i := range list {
		list[i] = stretched(list[i])
	}
	return list
}

// P2: neither the lists that are handed in nor what stands behind them is written into, linked or not.
func TestLinkLeavesItsArgument(t *testing.T) {
	r := rand.New(rand.NewPCG(19, 20))
	lists := [][]api.Unit{trio(), {}, {{}}, {largest()}, make([]api.Unit, 7)}
	for range 300 {
		lists = append(lists, randomUnits(r), []api.Unit{anyUnit(r), anyUnit(r)})
	}
	for _, units := range lists {
		units = roomyUnits(units)
		before := stretchedUnits(units)
		kiln.Link(units)
		if after := stretchedUnits(units); !reflect.DeepEqual(after, before) {
			t.Errorf("P2: Link wrote into what it was given: %+v, before: %+v", after, before)
		}
	}
}

// P2: an answer is new memory, its lists share nothing, also where units share lists.
func TestLinkSharesNothing(t *testing.T) {
	r := rand.New(rand.NewPCG(21, 22))
	shared := trio()
	shared[1].Shapes, shared[2].Shapes = shared[0].Shapes, shared[0].Shapes
	shared[1].Funcs, shared[2].Funcs = shared[0].Funcs, shared[0].Funcs
	shared[0].Funcs[1] = shared[0].Funcs[0]
	for i := range shared {
		shared[i].Exports = shared[i].Exports[1:]
	}
	lists := [][]api.Unit{trio(), shared, {{}}}
	for range 300 {
		lists = append(lists, randomUnits(r))
	}
	for _, units := range lists {
		units = roomyUnits(units)
		u, _, _ := kiln.Link(units)
		v, _, _ := kiln.Link(units)
		answers := append(piecesOf(u), piecesOf(v)...)
		shareNothing(t, answers)
		for _, given := range units {
			for _, p := range piecesOf(given) {
				sharesNothingWith(t, p, answers)
			}
		}
	}
	if _, e, _ := kiln.Link(shared); e != api.OK {
		t.Errorf("units that share lists: %d", e)
	}
}

func sharesNothingWith(t *testing.T, a piece, all []piece) {
	t.Helper()
	for _, b := range all {
		if a.begin < b.end && b.begin < a.end {
			t.Errorf("P2: the answer's %s shares memory with the %s that was handed in", b.name, a.name)
		}
	}
}

// P2: the caller may write into what came out, and into what was handed in, without the other changing.
func TestLinkKeepsNothing(t *testing.T) {
	units := trio()
	u, _, _ := kiln.Link(units)
	for _, f := range u.Funcs {
		overwrite(f.Params, mark)
		overwrite(f.Locals, mark)
		overwrite(f.Code, api.Ins{Op: mark})
	}
	for _, s := range u.Shapes {
		overwrite(s, mark)
	}
	overwrite(u.Consts, mark)
	overwrite(u.Exports, api.Export{Name: "mark"})
	overwrite(u.Funcs, api.Func{})
	overwrite(u.Shapes, nil)
	if !reflect.DeepEqual(units, trio()) {
		t.Errorf("P2: what was handed in has changed: %+v", units)
	}
	links(t, "again", units)
	u, _, _ = kiln.Link(units)
	kept := plain(u)
	for i := range units {
		overwrite(units[i].Shapes[0], mark)
		overwrite(units[i].Consts, mark)
		overwrite(units[i].Funcs[0].Params, mark)
		overwrite(units[i].Funcs[0].Code, api.Ins{Op: mark})
		overwrite(units[i].Exports, api.Export{Name: "mark"})
	}
	if !reflect.DeepEqual(plain(u), kept) {
		t.Errorf("P2: what came out has changed: %+v, want %+v", u, kept)
	}
	links(t, "others", trio())
}

// P2: a list of no elements may be nil or not.
func TestLinkOfEmptyLists(t *testing.T) {
	none := api.Unit{Funcs: []api.Func{{Code: code(call(0))}}, Imports: []api.Import{{Name: "e"}}}
	empty := api.Unit{Shapes: [][]int{}, Consts: []int{}, Imports: []api.Import{{Name: "e", Params: []int{}}},
		Funcs: []api.Func{{Params: []int{}, Locals: []int{}, Code: code(call(0))}}, Exports: []api.Export{{Name: "e"}}}
	want := api.Unit{Funcs: []api.Func{{Code: code(call(0))}, {Code: code(call(1))}}, Exports: []api.Export{{Name: "e", Func: 1}}}
	linksTo(t, "nil before empty lists", []api.Unit{none, empty}, want)
	want.Exports[0].Func = 0
	linksTo(t, "empty lists before nil", []api.Unit{empty, none}, want)
	linksTo(t, "only empty lists", []api.Unit{{Shapes: [][]int{}, Consts: []int{}, Funcs: []api.Func{}, Imports: []api.Import{}, Exports: []api.Export{}}}, api.Unit{})
}
