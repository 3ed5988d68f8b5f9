// Package giveup is how the inner packages stop at what can't be read, written or linked, or is wrong: from however deep, by a panic that the face recovers.
package giveup

import "kiln/api"

// Refusal is the answer of a call that gave up: its error and the number that is told with it; of an instruction, In is its function's.
type Refusal struct {
	E      api.Errno
	In, At int
}

// Unless gives up, unless it holds.
func (r Refusal) Unless(holds bool) {
	if !holds {
		panic(r)
	}
}

// Of tells the refusal that was recovered. Any other panic is a fault of the program and must not pass for an answer, so it goes on.
func Of(recovered any) Refusal {
	r, ok := recovered.(Refusal)
	if !ok {
		panic(recovered)
	}
	return r
}
