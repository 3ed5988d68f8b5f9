package machine

import (
	"slices"

	"kiln/api"
)

// value is a number or a reference. Its zero value is what a local begins with, of either: 0, or Nil.
type value struct {
	number int
	block  *block
}

func truth(holds bool) value {
	if holds {
		return value{number: 1}
	}
	return value{}
}

// frame is that of a call.
type frame struct {
	code []api.Ins
	// The instruction that is run.
	at           int
	slots, stack []value
}

// newFrame keeps the params.
func newFrame(f api.Func, params []value) *frame {
	return &frame{code: f.Code, slots: append(params, make([]value, len(f.Locals))...)}
}

func (f *frame) push(v value) {
	f.stack = append(f.stack, v)
}

func (f *frame) pop() value {
	last := len(f.stack) - 1
	v := f.stack[last]
	f.stack = f.stack[:last]
	return v
}

// take takes so many values at once, the last one from the top. They are in new memory, since the stack's will be written over.
func (f *frame) take(count int) []value {
	below := len(f.stack) - count
	list := slices.Clone(f.stack[below:])
	f.stack = f.stack[:below]
	return list
}

// do does an instruction that asks for no more than the frame, and ends nothing.
func (f *frame) do(i api.Ins) {
	switch i.Op {
	case api.Small:
		f.push(value{number: i.A})
	case api.Load:
		f.push(f.slots[i.A])
	case api.Store:
		v := f.pop()
		f.slots[i.A] = v
	case api.Pop:
		f.pop()
	case api.Dup:
		top := f.stack[len(f.stack)-1]
		f.push(top)
	case api.Nil:
		f.push(value{})
	case api.IsNil:
		b := f.pop().block
		f.push(truth(b == nil))
	default:
		y := f.pop().number
		x := f.pop().number
		f.push(reckoned(i.Op, x, y))
	}
}

func reckoned(op, x, y int) value {
	switch op {
	case api.Add:
		return value{number: x + y}
	case api.Sub:
		return value{number: x - y}
	case api.Mul:
		return value{number: x * y}
	case api.Less:
		return truth(x < y)
	}
	return truth(x == y)
}

// reachInto does a Get or a Set. It tells whether there is a block.
func (f *frame) reachInto(i api.Ins) bool {
	var v value
	if i.Op == api.Set {
		v = f.pop()
	}
	b := f.pop().block
	if b == nil {
		return false
	}
	if i.Op == api.Set {
		b.fields[i.B] = v
	} else {
		f.push(b.fields[i.B])
	}
	return true
}
