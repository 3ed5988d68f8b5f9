package kiln_test

import (
	"encoding/binary"
	"hash/crc32"
	"math/rand/v2"
	"strings"

	"kiln/api"
)

// bodiesOf writes the sections' bodies by the library's own numbers, as a second opinion. It asks nothing of the unit.
func bodiesOf(u api.Unit) []string {
	number := func(b []byte, v int) []byte { return binary.AppendUvarint(b, uint64(v)) }
	kinds := func(b []byte, list []int) []byte {
		b = number(b, len(list))
		for _, k := range list {
			b = number(b, k)
		}
		return b
	}
	shapes := number(nil, len(u.Shapes))
	for _, s := range u.Shapes {
		shapes = kinds(shapes, s)
	}
	consts := number(nil, len(u.Consts))
	for _, c := range u.Consts {
		consts = binary.AppendVarint(consts, int64(c))
	}
	funcs := number(nil, len(u.Funcs))
	for _, f := range u.Funcs {
		funcs = number(kinds(kinds(funcs, f.Params), f.Locals), f.Result)
		funcs = number(funcs, len(f.Code))
		for _, i := range f.Code {
			funcs = append(funcs, byte(i.Op))
			switch {
			case i.Op == api.Small:
				funcs = binary.AppendVarint(funcs, int64(i.A))
			case i.Op == api.Get || i.Op == api.Set:
				funcs = number(number(funcs, i.A), i.B)
			case strings.ContainsRune("\x00\x02\x03\x0b\x0c\x0d\x0f\x12\x13", rune(i.Op)):
				funcs = number(funcs, i.A)
			}
		}
	}
	imports := number(nil, len(u.Imports))
	for _, i := range u.Imports {
		imports = append(number(imports, len(i.Name)), i.Name...)
		imports = number(kinds(imports, i.Params), i.Result)
	}
	exports := number(nil, len(u.Exports))
	for _, e := range u.Exports {
		exports = number(append(number(exports, len(e.Name)), e.Name...), e.Func)
	}
	return []string{string(shapes), string(consts), string(funcs), string(imports), string(exports)}
}

// section is one section's bytes.
func section(number int, body string) string {
	b := binary.AppendUvarint([]byte{byte(number)}, uint64(len(body)))
	b = append(b, body...)
	return string(binary.LittleEndian.AppendUint32(b, crc32.ChecksumIEEE([]byte(body))))
}

// joined is the bytes of these bodies, and the places at which the sections begin, with the end behind them.
func joined(bodies []string) (string, []int) {
	s := "KILN\x01"
	places := []int{len(s)}
	for i, b := range bodies {
		s += section(i+1, b)
		places = append(places, len(s))
	}
	return s, places
}

func bytesOf(u api.Unit) string {
	s, _ := joined(bodiesOf(u))
	return s
}

// sample has something of everything.
func sample() api.Unit {
	return api.Unit{
		Shapes: [][]int{{0, 1, 2}, {2}},
		Consts: []int{0, -1, 63, 64, -64, -65, 1<<63 - 1, -1 << 63},
		Funcs: []api.Func{
			{Params: []int{0, 2}, Result: 1, Locals: []int{1, 0, 2}, Code: []api.Ins{{Op: api.Small, A: -300}, {Op: api.Get, A: 1, B: 200}, {Op: api.Call, A: 65535}, {Op: api.Ret}}},
			{Code: []api.Ins{{Op: api.Const, A: 7}, {Op: api.Ret}}},
		},
		Imports: []api.Import{{Name: "f\x00\xff", Params: []int{1, 0}, Result: 2}, {Name: "g"}},
		Exports: []api.Export{{Name: "main", Func: 1}, {Name: strings.Repeat("b", 20)}},
	}
}

// largest is at every bound of a unit's lists; its bytes are more than there may be.
func largest() api.Unit {
	var u api.Unit
	for i := range api.MaxShapes {
		u.Shapes = append(u.Shapes, filled(api.MaxFields, i))
		u.Imports = append(u.Imports, api.Import{Name: strings.Repeat("i", api.MaxName), Params: filled(api.MaxParams, i), Result: i})
		u.Exports = append(u.Exports, api.Export{Name: strings.Repeat("e", api.MaxName), Func: i})
	}
	u.Consts = filled(api.MaxConsts, -1<<63)
	for i := range api.MaxFuncs {
		f := api.Func{Params: filled(api.MaxParams, 20), Locals: filled(api.MaxLocals, 20), Result: i % 21, Code: make([]api.Ins, api.MaxCode)}
		for k := range f.Code {
			f.Code[k] = api.Ins{Op: api.Set, A: api.MaxOperand, B: api.MaxOperand}
		}
		u.Funcs = append(u.Funcs, f)
	}
	return u
}

func filled(n, v int) []int {
	list := make([]int, n)
	for i := range list {
		list[i] = v
	}
	return list
}

// sized is a unit of a little less than MaxBytes bytes, and of extra more: up to 126, beyond which the code's count has another byte.
func sized(extra int) api.Unit {
	long := api.Func{Code: make([]api.Ins, 200)}
	for i := range long.Code {
		long.Code[i] = api.Ins{Op: api.Small, A: 1<<31 - 1}
	}
	var u api.Unit
	for range 16 {
		u.Funcs = append(u.Funcs, long)
	}
	for range 5 {
		u.Funcs = append(u.Funcs, api.Func{Code: make([]api.Ins, 55)})
	}
	code := make([]api.Ins, 1+extra)
	for i := range code {
		code[i] = api.Ins{Op: api.Pop}
	}
	u.Funcs = append(u.Funcs, api.Func{Code: code})
	return u
}

// longestUnit is a unit of just MaxBytes bytes; with one more it is one byte longer.
func longestUnit(more int) api.Unit {
	return sized(api.MaxBytes - len(bytesOf(sized(0))) + more)
}

func randomUnit(r *rand.Rand) api.Unit {
	shapes := r.IntN(4)
	kind := func() int { return r.IntN(shapes + 1) }
	kinds := func(least, most int) []int {
		list := make([]int, least+r.IntN(most-least+1))
		for i := range list {
			list[i] = kind()
		}
		return list
	}
	name := func() string {
		b := make([]byte, 1+r.IntN(api.MaxName))
		for i := range b {
			b[i] = byte(r.Uint32())
		}
		return string(b)
	}
	var u api.Unit
	for range shapes {
		u.Shapes = append(u.Shapes, kinds(1, api.MaxFields))
	}
	for range r.IntN(5) {
		u.Consts = append(u.Consts, int(r.Uint64()>>r.IntN(64)))
	}
	for range r.IntN(4) {
		f := api.Func{Params: kinds(0, api.MaxParams), Result: kind(), Locals: kinds(0, api.MaxLocals)}
		for range 1 + r.IntN(10) {
			f.Code = append(f.Code, randomIns(r))
		}
		u.Funcs = append(u.Funcs, f)
	}
	for range r.IntN(3) {
		u.Imports = append(u.Imports, api.Import{Name: name(), Params: kinds(0, api.MaxParams), Result: kind()})
	}
	if len(u.Funcs) > 0 {
		for range r.IntN(3) {
			u.Exports = append(u.Exports, api.Export{Name: name(), Func: r.IntN(len(u.Funcs))})
		}
	}
	return u
}

func randomIns(r *rand.Rand) api.Ins {
	i := api.Ins{Op: r.IntN(21)}
	switch i.Op {
	case api.Small:
		i.A = int(int32(r.Uint32()) >> r.IntN(32))
	case api.Get, api.Set:
		i.A, i.B = r.IntN(65536)>>r.IntN(16), r.IntN(65536)>>r.IntN(16)
	case api.Const, api.Load, api.Store, api.Jump, api.Zero, api.Call, api.New, api.Nil, api.IsNil:
		i.A = r.IntN(65536) >> r.IntN(16)
	}
	return i
}

// plain is the unit in new memory, with every list of no elements nil, so that units can be compared.
func plain(u api.Unit) api.Unit {
	ints := func(list []int) []int { return append([]int(nil), list...) }
	var v api.Unit
	for _, s := range u.Shapes {
		v.Shapes = append(v.Shapes, ints(s))
	}
	v.Consts = ints(u.Consts)
	for _, f := range u.Funcs {
		v.Funcs = append(v.Funcs, api.Func{Params: ints(f.Params), Result: f.Result, Locals: ints(f.Locals), Code: append([]api.Ins(nil), f.Code...)})
	}
	for _, i := range u.Imports {
		v.Imports = append(v.Imports, api.Import{Name: strings.Clone(i.Name), Params: ints(i.Params), Result: i.Result})
	}
	for _, e := range u.Exports {
		v.Exports = append(v.Exports, api.Export{Name: strings.Clone(e.Name), Func: e.Func})
	}
	return v
}
