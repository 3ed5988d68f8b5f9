// Package machine runs a unit that was linked and looked through: of what looking through has shown, nothing is asked again.
package machine

import "kiln/api"

// machine is a run.
type machine struct {
	unit api.Unit
	// The last one is that of the function that is running.
	frames []*frame
	blocks blocks
	told   []int
}

// Run runs the function that is exported as main, if there is one.
func Run(u api.Unit, fuel, heap int) api.Outcome {
	main, ok := mainOf(u)
	if !ok {
		return api.Outcome{Why: api.NoMain}
	}
	m := machine{unit: u, blocks: blocks{heap: heap}}
	first := m.enter(main, nil)
	o := m.run(first, fuel)
	o.Told = m.told
	return o
}

func mainOf(u api.Unit) (function int, ok bool) {
	for _, e := range u.Exports {
		f := u.Funcs[e.Func]
		if e.Name == "main" && len(f.Params) == 0 && f.Result == 0 {
			return e.Func, true
		}
	}
	return 0, false
}

// run goes on from the frame's first instruction. What goes on elsewhere than behind it does so at once, so that at the end of the loop the next instruction is always the one behind.
func (m *machine) run(f *frame, fuel int) api.Outcome {
	o := api.Outcome{Why: api.NoFuel}
instructions:
	for o.Steps < fuel {
		o.Steps++
		i := f.code[f.at]
		switch i.Op {
		case api.Jump:
			f.at = i.A
			continue instructions
		case api.Zero:
			if f.pop().number == 0 {
				f.at = i.A
				continue instructions
			}
		case api.Call:
			if len(m.frames) == api.MaxDepth {
				o.Why = api.TooDeep
				break instructions
			}
			params := f.take(len(m.unit.Funcs[i.A].Params))
			f = m.enter(i.A, params)
			continue instructions
		case api.Ret:
			v := f.pop()
			if f = m.leave(); f == nil {
				o.Why, o.Result = api.Halted, v.number
				break instructions
			}
			// It still stands at its Call.
			f.push(v)
		case api.New:
			fields := len(m.unit.Shapes[i.A-1])
			if !m.blocks.haveRoom(fields, m.frames) {
				o.Why = api.NoHeap
				break instructions
			}
			b := m.blocks.made(f.take(fields))
			f.push(value{block: b})
		case api.Get, api.Set:
			if !f.reachInto(i) {
				o.Why = api.Fault
				break instructions
			}
		case api.Const:
			f.push(value{number: m.unit.Consts[i.A]})
		case api.Out:
			m.tell(f.pop().number)
		default:
			f.do(i)
		}
		f.at++
	}
	return o
}

func (m *machine) enter(function int, params []value) *frame {
	f := newFrame(m.unit.Funcs[function], params)
	m.frames = append(m.frames, f)
	return f
}

// leave ends the last frame. It tells the one that called it, or nil, if there is none.
func (m *machine) leave() *frame {
	last := len(m.frames) - 1
	m.frames = m.frames[:last]
	if last == 0 {
		return nil
	}
	return m.frames[last-1]
}

func (m *machine) tell(number int) {
	if len(m.told) < api.MaxTold {
		m.told = append(m.told, number)
	}
}
