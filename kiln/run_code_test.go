package kiln_test

import (
	"math/rand/v2"

	"kiln/api"
)

// writer writes random code of a function that makes, holds and drops many blocks.
type writer struct {
	r    *rand.Rand
	unit api.Unit
	f    api.Func
}

// blockProgram is a unit of a few functions with such code. Its main can be run.
func blockProgram(r *rand.Rand) api.Unit {
	u := program(api.Func{Locals: []int{0, 1, 1, 2, 2}})
	for range r.IntN(3) {
		u.Funcs = append(u.Funcs, api.Func{Params: randomKinds(r, 3, 2), Result: r.IntN(3), Locals: randomKinds(r, 4, 2)})
	}
	for n := range u.Funcs {
		w := writer{r: r, unit: u, f: u.Funcs[n]}
		for range 1 + r.IntN(6) {
			w.statement()
		}
		if r.IntN(3) == 0 {
			w.value(0, 2)
			w.write(api.Zero, 0, 0)
		}
		w.value(w.f.Result, 2)
		w.write(api.Ret, 0, 0)
		if len(w.f.Code) > api.MaxCode {
			return blockProgram(r)
		}
		u.Funcs[n].Code = w.f.Code
	}
	return u
}

func (w *writer) write(op, a, b int) {
	w.f.Code = append(w.f.Code, api.Ins{Op: op, A: a, B: b})
}

// slot is one of this kind, or -1.
func (w *writer) slot(kind int) int {
	slots := append(append([]int(nil), w.f.Params...), w.f.Locals...)
	for _, n := range w.r.Perm(len(slots)) {
		if slots[n] == kind {
			return n
		}
	}
	return -1
}

// value puts one of this kind on the stack.
func (w *writer) value(kind, depth int) {
	choice := w.r.IntN(10)
	slot := w.slot(kind)
	switch {
	case choice < 3 && slot >= 0:
		w.write(api.Load, slot, 0)
	case choice < 4 && depth > 0:
		n := w.r.IntN(len(w.unit.Funcs))
		if w.unit.Funcs[n].Result != kind || n == 0 {
			w.value(kind, depth-1)
			return
		}
		for _, k := range w.unit.Funcs[n].Params {
			w.value(k, depth-1)
		}
		w.write(api.Call, n, 0)
	case choice < 9 && depth > 0 && kind > 0:
		for _, k := range w.unit.Shapes[kind-1] {
			w.value(k, depth-1)
		}
		w.write(api.New, kind, 0)
	case kind > 0:
		w.write(api.Nil, kind, 0)
	case choice < 7 && depth > 0:
		w.value(0, depth-1)
		w.value(0, depth-1)
		w.write(api.Add+w.r.IntN(5), 0, 0)
	default:
		w.write(api.Small, w.r.IntN(5)-2, 0)
	}
}

func (w *writer) statement() {
	kind := w.r.IntN(3)
	slot := w.slot(kind)
	switch w.r.IntN(5) {
	case 0:
		w.value(kind, 2)
		w.write(api.Pop, 0, 0)
	case 1:
		w.value(0, 2)
		w.write(api.Out, 0, 0)
	case 2:
		w.field()
	default:
		if slot >= 0 {
			w.value(kind, 3)
			w.write(api.Store, slot, 0)
		}
	}
}

// field writes a Get or a Set of what a slot holds, mostly only if it is not Nil.
func (w *writer) field() {
	kind := 1 + w.r.IntN(2)
	slot := w.slot(kind)
	if slot < 0 {
		return
	}
	around := -1
	if w.r.IntN(8) > 0 {
		w.write(api.Load, slot, 0)
		w.write(api.IsNil, kind, 0)
		w.write(api.Zero, len(w.f.Code)+2, 0)
		around = len(w.f.Code)
		w.write(api.Jump, 0, 0)
	}
	fields := w.unit.Shapes[kind-1]
	n := w.r.IntN(len(fields))
	w.write(api.Load, slot, 0)
	if to := w.slot(fields[n]); to >= 0 && w.r.IntN(2) == 0 {
		w.write(api.Get, kind, n)
		w.write(api.Store, to, 0)
	} else {
		w.value(fields[n], 1)
		w.write(api.Set, kind, n)
	}
	if around >= 0 {
		w.f.Code[around].A = len(w.f.Code)
	}
}
