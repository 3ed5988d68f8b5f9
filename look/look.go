// Package look looks through a unit's functions, whether every stack is as it must be. At what is wrong it gives up, by a panic with a giveup.Refusal.
package look

import (
	"container/heap"
	"slices"

	"kiln/api"
	"kiln/giveup"
	"kiln/wellformed"
)

// Through gives up, if the unit is not well formed, or at the first instruction that is wrong.
func Through(u api.Unit) {
	wellformed.Unit(u, giveup.Refusal{E: api.ErrUnit})
	for n, f := range u.Funcs {
		l := looker{scope: scopeOf(u, f), function: n, code: f.Code, stacks: map[int][]int{}}
		l.lookThrough()
	}
}

// looker looks through one function.
type looker struct {
	scope    scope
	function int
	code     []api.Ins
	// With which stack, as the kinds on it, an instruction was come to.
	stacks  map[int][]int
	waiting waiting
}

func (l *looker) lookThrough() {
	l.come(0, nil)
	for l.waiting.Len() > 0 {
		l.look(heap.Pop(&l.waiting).(int))
	}
}

func (l *looker) look(at int) {
	i, stack, why := l.code[at], l.stacks[at], l.wrong(at)
	e := l.scope.effect(i, stack, why)
	below := len(stack) - len(e.takes)
	why.Unless(below >= 0 && slices.Equal(stack[below:], e.takes))
	if i.Op == api.Ret {
		why.Unless(below == 0)
		return
	}
	behind := slices.Concat(stack[:below], e.puts)
	why.Unless(len(behind) <= api.MaxStack)
	if i.Op != api.Jump {
		why.Unless(at+1 < len(l.code))
		l.come(at+1, behind)
	}
	if i.Op == api.Jump || i.Op == api.Zero {
		l.come(i.A, behind)
	}
}

// come has an instruction wait to be looked at. One that was come to already is not looked at again, since with the same stack nothing new would come of it.
func (l *looker) come(at int, stack []int) {
	before, already := l.stacks[at]
	if already {
		l.wrong(at).Unless(slices.Equal(stack, before))
		return
	}
	l.stacks[at] = stack
	heap.Push(&l.waiting, at)
}

func (l *looker) wrong(at int) giveup.Refusal {
	return giveup.Refusal{E: api.ErrCode, In: l.function, At: at}
}
