// Package kiln: units of code, linked, looked through and run in little room: see DOC.md.
package kiln

import (
	"kiln/api"
	"kiln/giveup"
	"kiln/wire"
)

// Encode writes a unit's bytes (P3).
func Encode(u api.Unit) (bytes string, e api.Errno) {
	defer func() {
		if r := recover(); r != nil {
			bytes, e = "", giveup.Of(r).E
		}
	}()
	return wire.Write(u), api.OK
}

// Decode reads them (P4).
func Decode(bytes string) (u api.Unit, e api.Errno, at int) {
	defer func() {
		if r := recover(); r != nil {
			refusal := giveup.Of(r)
			u, e, at = api.Unit{}, refusal.E, refusal.At
		}
	}()
	return wire.Read(bytes), api.OK, 0
}

// Link makes one unit of several (P5).
func Link(units []api.Unit) (api.Unit, api.Errno, int) { return api.Unit{}, api.OK, 0 }

// Verify looks through a unit (P6).
func Verify(u api.Unit) (api.Errno, int, int) { return api.OK, 0, 0 }

// Run runs units (P7).
func Run(units []string, fuel int, heap int) api.Outcome { return api.Outcome{} }
