package wire

import (
	"kiln/api"
	"kiln/giveup"
	"kiln/wellformed"
)

// Write tells the unit's bytes. It gives up with ErrUnit or ErrLong.
func Write(u api.Unit) string {
	// All of it is looked at first, since ErrUnit goes before ErrLong.
	wellformed.Unit(u, giveup.Refusal{E: api.ErrUnit})
	out := []byte(head)
	out = appendSection(out, shapesSection, appendList(nil, u.Shapes, appendKinds))
	out = appendSection(out, constsSection, appendList(nil, u.Consts, appendSigned))
	out = appendSection(out, funcsSection, appendList(nil, u.Funcs, appendFunc))
	out = appendSection(out, importsSection, appendList(nil, u.Imports, appendImport))
	out = appendSection(out, exportsSection, appendList(nil, u.Exports, appendExport))
	return string(out)
}

func appendSection(out []byte, number byte, body []byte) []byte {
	out = append(out, number)
	out = appendNumber(out, uint64(len(body)))
	out = append(out, body...)
	c := check(string(body))
	for range checkBytes {
		out = append(out, byte(c))
		c >>= 8
	}
	giveup.Refusal{E: api.ErrLong}.Unless(len(out) <= api.MaxBytes)
	return out
}

func appendNumber(out []byte, v uint64) []byte {
	for v >= 128 {
		out = append(out, byte(v)|128)
		v >>= 7
	}
	return append(out, byte(v))
}

func appendSigned(out []byte, v int) []byte {
	doubled := uint64(v) << 1
	if v < 0 {
		// All bits turned, 2v is -2v - 1, which has room in 64 bits for the least v too.
		doubled = ^doubled
	}
	return appendNumber(out, doubled)
}

func appendWhole(out []byte, v int) []byte {
	return appendNumber(out, uint64(v))
}

func appendText(out []byte, text string) []byte {
	out = appendWhole(out, len(text))
	return append(out, text...)
}

func appendList[T any](out []byte, list []T, appendOne func([]byte, T) []byte) []byte {
	out = appendWhole(out, len(list))
	for _, one := range list {
		out = appendOne(out, one)
	}
	return out
}

func appendKinds(out []byte, kinds []int) []byte {
	return appendList(out, kinds, appendWhole)
}

func appendFunc(out []byte, f api.Func) []byte {
	out = appendKinds(out, f.Params)
	out = appendKinds(out, f.Locals)
	out = appendWhole(out, f.Result)
	return appendList(out, f.Code, appendIns)
}

func appendIns(out []byte, i api.Ins) []byte {
	out = append(out, byte(i.Op))
	if i.Op == api.Small {
		return appendSigned(out, i.A)
	}
	named := wellformed.Operands(i.Op)
	if named >= 1 {
		out = appendWhole(out, i.A)
	}
	if named >= 2 {
		out = appendWhole(out, i.B)
	}
	return out
}

func appendImport(out []byte, i api.Import) []byte {
	out = appendText(out, i.Name)
	out = appendKinds(out, i.Params)
	return appendWhole(out, i.Result)
}

func appendExport(out []byte, e api.Export) []byte {
	out = appendText(out, e.Name)
	return appendWhole(out, e.Func)
}
