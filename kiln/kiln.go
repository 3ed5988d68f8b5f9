// Package kiln: units of code, linked, looked through and run in little room: see DOC.md.
package kiln

import (
	"kiln/api"
	"kiln/giveup"
	"kiln/link"
	"kiln/wire"
)

// Encode writes a unit's bytes (P3).
func Encode(u api.Unit) (string, api.Errno) {
	bytes, e, _ := answer(func() string { return wire.Write(u) })
	return bytes, e
}

// Decode reads them (P4).
func Decode(bytes string) (api.Unit, api.Errno, int) {
	return answer(func() api.Unit { return wire.Read(bytes) })
}

// Link makes one unit of several (P5).
func Link(units []api.Unit) (api.Unit, api.Errno, int) {
	return answer(func() api.Unit { return link.Units(units) })
}

// Verify looks through a unit (P6).
func Verify(u api.Unit) (api.Errno, int, int) { return api.OK, 0, 0 }

// Run runs units (P7).
func Run(units []string, fuel int, heap int) api.Outcome { return api.Outcome{} }

// answer tells what the work makes, or with nothing made why it was given up.
func answer[T any](work func() T) (made T, e api.Errno, at int) {
	defer func() {
		if r := recover(); r != nil {
			refusal := giveup.Of(r)
			e, at = refusal.E, refusal.At
		}
	}()
	made = work()
	return made, api.OK, 0
}
