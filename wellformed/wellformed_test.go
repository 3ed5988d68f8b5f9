package wellformed

import (
	"testing"

	"kiln/api"
	"kiln/giveup"
)

func TestOperandsAreThoseOfTheDocument(t *testing.T) {
	table := []struct{ op, named int }{
		{0, 1}, {1, 1}, {2, 1}, {3, 1}, {4, 0}, {5, 0}, {6, 0}, {7, 0}, {8, 0}, {9, 0}, {10, 0},
		{11, 1}, {12, 1}, {13, 1}, {14, 0}, {15, 1}, {16, 2}, {17, 2}, {18, 1}, {19, 1}, {20, 0},
	}
	for _, c := range table {
		if !Op(c.op) || Operands(c.op) != c.named {
			t.Errorf("op %d: %v, %d operands, want %d", c.op, Op(c.op), Operands(c.op), c.named)
		}
	}
	for _, op := range []int{-1 << 63, -1, 21, 256, 1<<63 - 1} {
		if Op(op) {
			t.Errorf("op %d is one", op)
		}
	}
}

func TestUnitGivesUpWithWhatItWasGiven(t *testing.T) {
	why := giveup.Refusal{E: api.ErrUnit, At: 4}
	for k, u := range []api.Unit{
		{Shapes: [][]int{{}}},
		{Consts: make([]int, api.MaxConsts+1)},
		{Funcs: []api.Func{{}}},
		{Imports: []api.Import{{}}},
		{Exports: []api.Export{{Name: "a"}}},
	} {
		func() {
			defer func() {
				if r := recover(); r != why {
					t.Errorf("unit %d: gave up with %v, want %v", k, r, why)
				}
			}()
			Unit(u, why)
		}()
	}
	Unit(api.Unit{}, why)
}
