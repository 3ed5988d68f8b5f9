package kiln_test

import (
	"math/rand/v2"
	"reflect"
	"testing"
	"unsafe"

	"kiln/api"
	"kiln/kiln"
)

const mark = 0x5eed

// roomy is the unit with spare room behind each list, in which marks stand.
func roomy(u api.Unit) api.Unit {
	ints := func(list []int) []int { return spare(list, mark) }
	u = plain(u)
	for i := range u.Shapes {
		u.Shapes[i] = ints(u.Shapes[i])
	}
	for i := range u.Funcs {
		f := &u.Funcs[i]
		f.Params, f.Locals, f.Code = ints(f.Params), ints(f.Locals), spare(f.Code, api.Ins{Op: mark, A: mark, B: mark})
	}
	for i := range u.Imports {
		u.Imports[i].Params = ints(u.Imports[i].Params)
	}
	u.Shapes, u.Consts = spare(u.Shapes, []int{mark}), ints(u.Consts)
	u.Funcs = spare(u.Funcs, api.Func{Result: mark})
	u.Imports = spare(u.Imports, api.Import{Name: "mark"})
	u.Exports = spare(u.Exports, api.Export{Name: "mark"})
	return u
}

func spare[T any](list []T, m T) []T {
	room := append(append([]T(nil), list...), m, m, m)
	return room[:len(list)]
}

// stretched is the unit with all its lists as long as their room is, in new memory.
func stretched(u api.Unit) api.Unit {
	u.Shapes = append([][]int(nil), u.Shapes[:cap(u.Shapes)]...)
	for i, s := range u.Shapes {
		u.Shapes[i] = s[:cap(s)]
	}
	u.Consts = u.Consts[:cap(u.Consts)]
	u.Funcs = append([]api.Func(nil), u.Funcs[:cap(u.Funcs)]...)
	for i, f := range u.Funcs {
		u.Funcs[i] = api.Func{Params: f.Params[:cap(f.Params)], Result: f.Result, Locals: f.Locals[:cap(f.Locals)], Code: f.Code[:cap(f.Code)]}
	}
	u.Imports = append([]api.Import(nil), u.Imports[:cap(u.Imports)]...)
	for i := range u.Imports {
		p := &u.Imports[i].Params
		*p = (*p)[:cap(*p)]
	}
	u.Exports = u.Exports[:cap(u.Exports)]
	return plain(u)
}

// P2: neither the lists that are handed in nor what stands behind them is written into.
func TestEncodeLeavesItsArgument(t *testing.T) {
	r := rand.New(rand.NewPCG(15, 16))
	wrong := sample()
	wrong.Exports[1].Func = 2
	units := []api.Unit{sample(), wrong, largest(), longestUnit(0)}
	for range 200 {
		units = append(units, randomUnit(r), anyUnit(r))
	}
	leaves(t, "Encode", units, func(u api.Unit) { kiln.Encode(u) })
}

func leaves(t *testing.T, name string, units []api.Unit, ask func(u api.Unit)) {
	t.Helper()
	for _, u := range units {
		u = roomy(u)
		before := stretched(u)
		ask(u)
		if after := stretched(u); !reflect.DeepEqual(after, before) {
			t.Errorf("P2: %s wrote into what it was given: %+v, before: %+v", name, after, before)
		}
	}
}

// P2: what was handed in is not kept: it may be written into behind the call.
func TestEncodeKeepsNothing(t *testing.T) {
	u := sample()
	s, _ := kiln.Encode(u)
	kept := string([]byte(s))
	u.Consts[0], u.Shapes[0][0], u.Funcs[0].Code[0].A = 9, 1, 9
	other, _ := kiln.Encode(u)
	if s != kept || other == s || other != bytesOf(u) {
		t.Errorf("P2: %x, %x, %x", kept, s, other)
	}
}

// piece is the memory of a list, its spare room too, or of a text.
type piece struct {
	name       string
	begin, end uintptr
}

func listPiece[T any](name string, list []T) piece {
	begin := uintptr(unsafe.Pointer(unsafe.SliceData(list)))
	var one T
	return piece{name, begin, begin + uintptr(cap(list))*unsafe.Sizeof(one)}
}

func textPiece(name, text string) piece {
	begin := uintptr(unsafe.Pointer(unsafe.StringData(text)))
	return piece{name, begin, begin + uintptr(len(text))}
}

func piecesOf(u api.Unit) []piece {
	list := []piece{listPiece("Shapes", u.Shapes), listPiece("Consts", u.Consts), listPiece("Funcs", u.Funcs), listPiece("Imports", u.Imports), listPiece("Exports", u.Exports)}
	for _, s := range u.Shapes {
		list = append(list, listPiece("fields", s))
	}
	for _, f := range u.Funcs {
		list = append(list, listPiece("Params", f.Params), listPiece("Locals", f.Locals), listPiece("Code", f.Code))
	}
	for _, i := range u.Imports {
		list = append(list, listPiece("Params", i.Params), textPiece("Name", i.Name))
	}
	for _, e := range u.Exports {
		list = append(list, textPiece("Name", e.Name))
	}
	return list
}

func shareNothing(t *testing.T, all []piece) {
	t.Helper()
	for i, a := range all {
		for _, b := range all[:i] {
			if a.begin < b.end && b.begin < a.end {
				t.Errorf("P2: %s and %s share memory", a.name, b.name)
			}
		}
	}
}

// P2: an answer is new memory, its lists share nothing.
func TestDecodeSharesNothing(t *testing.T) {
	text := bytesOf(sample())
	u, _, _ := kiln.Decode(text)
	v, _, _ := kiln.Decode(text)
	shareNothing(t, append(append(piecesOf(u), piecesOf(v)...), textPiece("the bytes", text)))
}

// P2: the caller may write into each list, and its spare room, without any other changing.
func TestDecodeListsAreTheCallers(t *testing.T) {
	text := bytesOf(sample())
	writes := []func(u *api.Unit){
		func(u *api.Unit) { overwrite(u.Shapes, []int{mark}) },
		func(u *api.Unit) { overwrite(u.Shapes[0], mark) },
		func(u *api.Unit) { overwrite(u.Shapes[1], mark) },
		func(u *api.Unit) { overwrite(u.Consts, mark) },
		func(u *api.Unit) { overwrite(u.Funcs, api.Func{}) },
		func(u *api.Unit) { overwrite(u.Funcs[0].Params, mark) },
		func(u *api.Unit) { overwrite(u.Funcs[0].Locals, mark) },
		func(u *api.Unit) { overwrite(u.Funcs[0].Code, api.Ins{Op: mark}) },
		func(u *api.Unit) { overwrite(u.Funcs[1].Params, mark) },
		func(u *api.Unit) { overwrite(u.Funcs[1].Locals, mark) },
		func(u *api.Unit) { overwrite(u.Funcs[1].Code, api.Ins{Op: mark}) },
		func(u *api.Unit) { overwrite(u.Imports, api.Import{}) },
		func(u *api.Unit) { overwrite(u.Imports[0].Params, mark) },
		func(u *api.Unit) { overwrite(u.Imports[1].Params, mark) },
		func(u *api.Unit) { overwrite(u.Exports, api.Export{}) },
	}
	for k, write := range writes {
		u, _, _ := kiln.Decode(text)
		other, _, _ := kiln.Decode(text)
		want := plain(u)
		write(&want)
		write(&u)
		if !reflect.DeepEqual(plain(u), plain(want)) {
			t.Errorf("P2: write %d went into another list too: %+v, want %+v", k, u, want)
		}
		later, _, _ := kiln.Decode(text)
		if !reflect.DeepEqual(plain(later), plain(sample())) || !reflect.DeepEqual(plain(other), plain(sample())) {
			t.Errorf("P2: write %d went into another answer: %+v, %+v", k, other, later)
		}
	}
}

func overwrite[T any](list []T, v T) {
	list = list[:cap(list)]
	for i := range list {
		list[i] = v
	}
}
