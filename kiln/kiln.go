// Package kiln: units of code, linked, looked through and run in little room: see DOC.md.
package kiln

import (
	"kiln/api"
	"kiln/giveup"
	"kiln/link"
	"kiln/look"
	"kiln/machine"
	"kiln/wire"
)

// Encode writes a unit's bytes (P3).
func Encode(u api.Unit) (string, api.Errno) {
	var bytes string
	why := refusal(func() { bytes = wire.Write(u) })
	return bytes, why.E
}

// Decode reads them (P4).
func Decode(bytes string) (api.Unit, api.Errno, int) {
	var u api.Unit
	why := refusal(func() { u = wire.Read(bytes) })
	return u, why.E, why.At
}

// Link makes one unit of several (P5).
func Link(units []api.Unit) (api.Unit, api.Errno, int) {
	var one api.Unit
	why := refusal(func() { one = link.Units(units) })
	return one, why.E, why.At
}

// Verify looks through a unit (P6).
func Verify(u api.Unit) (api.Errno, int, int) {
	why := refusal(func() { look.Through(u) })
	return why.E, why.In, why.At
}

// Run runs units (P7).
func Run(units []string, fuel int, heap int) api.Outcome {
	if fuel < 0 || fuel > api.MaxFuel || heap < 0 || heap > api.MaxHeap {
		return api.Outcome{Why: api.BadArgs}
	}
	var read []api.Unit
	for n, bytes := range units {
		u, e, at := Decode(bytes)
		if e != api.OK {
			return api.Outcome{Why: api.BadBytes, E: e, Unit: n, At: at}
		}
		// One more than can be linked is as bad as any number more, and takes less room.
		if len(read) <= api.MaxUnits {
			read = append(read, u)
		}
	}
	one, e, number := Link(read)
	if e != api.OK {
		return api.Outcome{Why: api.BadLink, E: e, Unit: number}
	}
	if e, function, at := Verify(one); e != api.OK {
		return api.Outcome{Why: api.BadCode, E: e, Unit: function, At: at}
	}
	return machine.Run(one, fuel, heap)
}

// refusal tells why the work was given up, or the refusal of nothing (OK). The work hands over what it makes in one assignment, so that of what was given up nothing is left.
func refusal(work func()) (why giveup.Refusal) {
	defer func() {
		if r := recover(); r != nil {
			why = giveup.Of(r)
		}
	}()
	work()
	return why
}
