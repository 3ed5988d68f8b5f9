package kiln_test

import (
	"math/rand/v2"
	"reflect"
	"testing"

	"kiln/api"
	"kiln/kiln"
)

// P1: where several errors apply, the one named first.
func TestErrorsInTheirOrder(t *testing.T) {
	u := largest()
	u.Exports[19].Func = 30
	if s, e := kiln.Encode(u); s != "" || e != api.ErrUnit {
		t.Errorf("P1: too long and not well formed: %d bytes, %d", len(s), e)
	}
	if _, e, at := kiln.Decode("no unit" + bytesOf(largest())); e != api.ErrLong || at != 0 {
		t.Errorf("P1: too long and with a wrong beginning: %d, %d", e, at)
	}
}

// P1: any numbers, texts and lists.
func TestEncodeOfAnything(t *testing.T) {
	r := rand.New(rand.NewPCG(9, 10))
	for range 3000 {
		u := anyUnit(r)
		s, e := kiln.Encode(u)
		if e == api.OK && s != bytesOf(u) || e != api.OK && s != "" || e != api.OK && e != api.ErrUnit && e != api.ErrLong {
			t.Fatalf("P1: %+v: %x, %d", u, s, e)
		}
	}
	if s, e := kiln.Encode(huge()); s != "" || e != api.ErrUnit {
		t.Errorf("P1: a huge unit: %d bytes, %d", len(s), e)
	}
}

// P1: any units.
func TestLinkOfAnything(t *testing.T) {
	r := rand.New(rand.NewPCG(23, 24))
	for range 5000 {
		units := make([]api.Unit, r.IntN(8))
		for i := range units {
			units[i] = anyUnit(r)
		}
		u, e, k := kiln.Link(units)
		want, wantE, wantK := linked(units)
		if e != wantE || k != wantK || !reflect.DeepEqual(plain(u), plain(want)) {
			t.Fatalf("P1: %+v: %+v, %d, %d, want %+v, %d, %d", units, u, e, k, want, wantE, wantK)
		}
	}
	linkRefused(t, "a huge unit", []api.Unit{{}, huge()}, api.ErrUnit, 1)
	linkRefused(t, "a unit at all bounds", []api.Unit{largest()}, api.ErrTwice, 0)
}

func huge() api.Unit {
	const n = 1000000
	return api.Unit{Shapes: make([][]int, n), Consts: make([]int, n), Funcs: make([]api.Func, n), Imports: make([]api.Import, n), Exports: make([]api.Export, n)}
}

func anyUnit(r *rand.Rand) api.Unit {
	number := func() int {
		few := []int{0, 1, 2, -1, 20, 21, 65535, 65536, 1<<31 - 1, 1 << 31, -1 << 31, 1<<63 - 1, -1 << 63}
		if r.IntN(3) > 0 {
			return r.IntN(2)
		}
		return few[r.IntN(len(few))]
	}
	list := func() []int {
		l := make([]int, r.IntN(12))
		for i := range l {
			l[i] = number()
		}
		return l
	}
	u := api.Unit{Consts: list()}
	for range r.IntN(3) {
		u.Shapes = append(u.Shapes, list())
	}
	for range r.IntN(3) {
		u.Funcs = append(u.Funcs, api.Func{Params: list(), Result: number(), Locals: list(), Code: []api.Ins{{Op: number(), A: number(), B: number()}}})
	}
	for range r.IntN(2) {
		u.Imports = append(u.Imports, api.Import{Name: string(make([]byte, r.IntN(25))), Params: list(), Result: number()})
		u.Exports = append(u.Exports, api.Export{Name: string(make([]byte, r.IntN(25))), Func: number()})
	}
	return u
}

// P1: any bytes.
func TestDecodeOfAnything(t *testing.T) {
	r := rand.New(rand.NewPCG(11, 12))
	for range 5000 {
		b := make([]byte, r.IntN(80))
		for i := range b {
			b[i] = byte(r.Uint32()) >> r.IntN(8)
		}
		text := string(b)
		if r.IntN(2) == 0 {
			text = "KILN\x01" + text
		}
		u, e, at := kiln.Decode(text)
		if e != api.ErrForm || at < 0 || at > len(text) || !reflect.DeepEqual(plain(u), api.Unit{}) {
			t.Fatalf("P1: %x: %+v, %d, %d", text, u, e, at)
		}
	}
}

// P2: the same arguments, the same answer, whatever was asked in between.
func TestAnswersAgain(t *testing.T) {
	r := rand.New(rand.NewPCG(13, 14))
	type answer struct {
		text string
		e    api.Errno
		u    api.Unit
		f    api.Errno
		at   int
		l    api.Unit
		g    api.Errno
		k    int
		v    [3]int
	}
	ask := func(u api.Unit) answer {
		var a answer
		a.text, a.e = kiln.Encode(u)
		b := bytesOf(u)
		a.u, a.f, a.at = kiln.Decode(b[:len(b)-len(b)%3])
		a.u = plain(a.u)
		a.l, a.g, a.k = kiln.Link([]api.Unit{u, {Shapes: u.Shapes}})
		a.l = plain(a.l)
		e, f, at := kiln.Verify(u)
		a.v = [3]int{int(e), f, at}
		return a
	}
	var units []api.Unit
	var first []answer
	for range 300 {
		u := anyUnit(r)
		if r.IntN(2) == 0 {
			u = randomUnit(r)
		}
		units = append(units, u)
		first = append(first, ask(u))
	}
	for i := len(units) - 1; i >= 0; i-- {
		if again := ask(units[i]); !reflect.DeepEqual(again, first[i]) {
			t.Errorf("P2: %+v: %+v, and then %+v", units[i], first[i], again)
		}
	}
}

// P2: a list of no elements may be nil or not.
func TestEncodeOfEmptyLists(t *testing.T) {
	none := api.Unit{Funcs: []api.Func{{Code: []api.Ins{{Op: api.Ret}}}}, Imports: []api.Import{{Name: "i"}}}
	empty := api.Unit{Shapes: [][]int{}, Consts: []int{}, Exports: []api.Export{},
		Funcs:   []api.Func{{Params: []int{}, Locals: []int{}, Code: []api.Ins{{Op: api.Ret}}}},
		Imports: []api.Import{{Name: "i", Params: []int{}}}}
	a, e := kiln.Encode(none)
	b, f := kiln.Encode(empty)
	if a != b || e != api.OK || f != api.OK {
		t.Errorf("P2: %x, %d with nil; %x, %d without", a, e, b, f)
	}
}
