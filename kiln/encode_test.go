package kiln_test

import (
	"encoding/hex"
	"math/rand/v2"
	"strings"
	"testing"

	"kiln/api"
	"kiln/kiln"
)

func TestEncodeExamples(t *testing.T) {
	zero := "8def02d2"
	product := api.Unit{
		Funcs:   []api.Func{{Code: []api.Ins{{Op: api.Small, A: 6}, {Op: api.Small, A: 7}, {Op: api.Mul}, {Op: api.Ret}}}},
		Exports: []api.Export{{Name: "main"}},
	}
	for _, c := range []struct {
		name   string
		u      api.Unit
		within string
	}{
		{"nothing", api.Unit{}, "4b494c4e01" + "010100" + zero + "020100" + zero + "030100" + zero + "040100" + zero + "050100" + zero},
		{"M", product, "4b494c4e01" + "010100" + zero + "020100" + zero + "030b" + "01000000" + "04010c010e080e"},
	} {
		s, e := kiln.Encode(c.u)
		if e != api.OK || !strings.HasPrefix(hex.EncodeToString([]byte(s)), c.within) {
			t.Errorf("P3: %s: %x, %d, want %s", c.name, s, e, c.within)
		}
	}
}

func TestEncodeNumbers(t *testing.T) {
	for _, c := range []struct {
		v    int
		body string
	}{
		{0, "00"}, {-1, "01"}, {1, "02"}, {63, "7e"}, {-64, "7f"}, {64, "8001"}, {-65, "8101"}, {8191, "fe7f"}, {8192, "808001"},
		{1<<63 - 1, "feffffffffffffffff01"}, {-1 << 63, "ffffffffffffffffff01"},
	} {
		body, _ := hex.DecodeString("01" + c.body)
		want, _ := joined([]string{"\x00", string(body), "\x00", "\x00", "\x00"})
		if s, e := kiln.Encode(api.Unit{Consts: []int{c.v}}); s != want || e != api.OK {
			t.Errorf("P3: the const %d: %x, %d, want %x", c.v, s, e, want)
		}
	}
}

func TestEncodeEveryInstruction(t *testing.T) {
	ins := []api.Ins{{Op: 0, A: 1}, {Op: 1, A: -2}, {Op: 2, A: 3}, {Op: 3, A: 4}, {Op: 4}, {Op: 5}, {Op: 6}, {Op: 7}, {Op: 8}, {Op: 9}, {Op: 10}, {Op: 11, A: 128}, {Op: 12, A: 127}, {Op: 13, A: 65535}, {Op: 14}, {Op: 15, A: 5}, {Op: 16, A: 6, B: 7}, {Op: 17, A: 8, B: 300}, {Op: 18, A: 9}, {Op: 19, A: 10}, {Op: 20}}
	body := "\x01\x00\x00\x00\x15" + "\x00\x01" + "\x01\x03" + "\x02\x03" + "\x03\x04" + "\x04\x05\x06\x07\x08\x09\x0a" + "\x0b\x80\x01" + "\x0c\x7f" + "\x0d\xff\xff\x03" + "\x0e" + "\x0f\x05" + "\x10\x06\x07" + "\x11\x08\xac\x02" + "\x12\x09" + "\x13\x0a" + "\x14"
	want, _ := joined([]string{"\x00", "\x00", body, "\x00", "\x00"})
	if s, e := kiln.Encode(api.Unit{Funcs: []api.Func{{Code: ins}}}); s != want || e != api.OK {
		t.Errorf("P3: %x, %d, want %x", s, e, want)
	}
}

func TestEncodeOrdinaryUnits(t *testing.T) {
	r := rand.New(rand.NewPCG(3, 4))
	units := []api.Unit{{}, sample(), longestUnit(0)}
	for range 2000 {
		units = append(units, randomUnit(r))
	}
	for _, u := range units {
		if s, e := kiln.Encode(u); s != bytesOf(u) || e != api.OK {
			t.Fatalf("P3: %.400x, %d, want %.400x", s, e, bytesOf(u))
		}
	}
}

// bound is a change of the sample that leaves it well formed, or does not.
type bound struct {
	name   string
	ok     bool
	change func(u *api.Unit)
}

// counts tries how many elements something may have, on both sides of each bound.
func counts(name string, least, most int, set func(u *api.Unit, n int)) []bound {
	var list []bound
	for _, n := range []int{0, 1, most, most + 1, most + 1000} {
		list = append(list, bound{name, least <= n && n <= most, func(u *api.Unit) { set(u, n) }})
	}
	return list
}

// numbers tries what a number may be, on both sides of each bound.
func numbers(name string, least, most int, set func(u *api.Unit, v int)) []bound {
	var list []bound
	for _, v := range []int{-1 << 63, least - 1, least, most, most + 1, 1 << 32, 1<<63 - 1} {
		list = append(list, bound{name, least <= v && v <= most, func(u *api.Unit) { set(u, v) }})
	}
	return list
}

func countBounds() []bound {
	return joinedBounds(
		counts("Shapes", 0, 20, func(u *api.Unit, n int) {
			*u = api.Unit{Shapes: make([][]int, n)}
			for i := range u.Shapes {
				u.Shapes[i] = []int{i}
			}
		}),
		counts("fields", 1, 8, func(u *api.Unit, n int) { u.Shapes[1] = make([]int, n) }),
		counts("Consts", 0, 50, func(u *api.Unit, n int) { u.Consts = make([]int, n) }),
		counts("Funcs", 0, 30, func(u *api.Unit, n int) {
			*u = api.Unit{Funcs: make([]api.Func, n)}
			for i := range u.Funcs {
				u.Funcs[i].Code = make([]api.Ins, 1)
			}
		}),
		counts("Params", 0, 6, func(u *api.Unit, n int) { u.Funcs[1].Params = make([]int, n) }),
		counts("Locals", 0, 10, func(u *api.Unit, n int) { u.Funcs[1].Locals = make([]int, n) }),
		counts("Code", 1, 200, func(u *api.Unit, n int) { u.Funcs[1].Code = make([]api.Ins, n) }),
		counts("Imports", 0, 20, func(u *api.Unit, n int) {
			u.Imports = make([]api.Import, n)
			for i := range u.Imports {
				u.Imports[i].Name = "same"
			}
		}),
		counts("Params of an import", 0, 6, func(u *api.Unit, n int) { u.Imports[1].Params = make([]int, n) }),
		counts("name of an import", 1, 20, func(u *api.Unit, n int) { u.Imports[1].Name = strings.Repeat("x", n) }),
		counts("Exports", 0, 20, func(u *api.Unit, n int) {
			u.Exports = make([]api.Export, n)
			for i := range u.Exports {
				u.Exports[i].Name = "same"
			}
		}),
		counts("name of an export", 1, 20, func(u *api.Unit, n int) { u.Exports[1].Name = strings.Repeat("\x00", n) }),
	)
}

func numberBounds() []bound {
	list := joinedBounds(
		numbers("kind of a field", 0, 2, func(u *api.Unit, v int) { u.Shapes[0][2] = v }),
		numbers("kind of a param", 0, 2, func(u *api.Unit, v int) { u.Funcs[0].Params[1] = v }),
		numbers("kind of a local", 0, 2, func(u *api.Unit, v int) { u.Funcs[0].Locals[2] = v }),
		numbers("kind of a result", 0, 2, func(u *api.Unit, v int) { u.Funcs[1].Result = v }),
		numbers("kind of an import's param", 0, 2, func(u *api.Unit, v int) { u.Imports[0].Params[1] = v }),
		numbers("kind of an import's result", 0, 2, func(u *api.Unit, v int) { u.Imports[1].Result = v }),
		numbers("Func of an export", 0, 1, func(u *api.Unit, v int) { u.Exports[1].Func = v }),
		numbers("Op", 0, 20, func(u *api.Unit, v int) { u.Funcs[1].Code[1] = api.Ins{Op: v} }),
	)
	for op := range 21 {
		leastA, mostA, mostB := 0, 0, 0
		switch op {
		case api.Small:
			leastA, mostA = -2147483648, 2147483647
		case api.Get, api.Set:
			mostA, mostB = 65535, 65535
		case api.Const, api.Load, api.Store, api.Jump, api.Zero, api.Call, api.New, api.Nil, api.IsNil:
			mostA = 65535
		}
		list = append(list, numbers("A", leastA, mostA, func(u *api.Unit, v int) { u.Funcs[1].Code[1] = api.Ins{Op: op, A: v} })...)
		list = append(list, numbers("B", 0, mostB, func(u *api.Unit, v int) { u.Funcs[1].Code[1] = api.Ins{Op: op, B: v} })...)
	}
	return list
}

func joinedBounds(lists ...[]bound) []bound {
	var all []bound
	for _, l := range lists {
		all = append(all, l...)
	}
	return all
}

func TestEncodeBounds(t *testing.T) {
	for _, b := range joinedBounds(countBounds(), numberBounds()) {
		u := sample()
		b.change(&u)
		s, e := kiln.Encode(u)
		if b.ok && (e != api.OK || s != bytesOf(u)) {
			t.Errorf("P3: %s: %d, %x, though it is well formed", b.name, e, s)
		}
		if !b.ok && (e != api.ErrUnit || s != "") {
			t.Errorf("P3: %s: %d, %x, though it is not well formed", b.name, e, s)
		}
	}
}

func TestEncodeMoreThanOneExportOfAName(t *testing.T) {
	u := sample()
	u.Exports[1].Name = u.Exports[0].Name
	if _, e := kiln.Encode(u); e != api.OK {
		t.Errorf("P3: a name that is exported twice: %d", e)
	}
}

func TestEncodeLong(t *testing.T) {
	if s, e := kiln.Encode(longestUnit(0)); len(s) != api.MaxBytes || e != api.OK {
		t.Errorf("P3: a unit of MaxBytes: %d bytes, %d", len(s), e)
	}
	for _, u := range []api.Unit{longestUnit(1), longestUnit(2), largest()} {
		if s, e := kiln.Encode(u); s != "" || e != api.ErrLong {
			t.Errorf("P3: a unit of more than MaxBytes: %d bytes, %d", len(s), e)
		}
	}
}

// What is too long by its last sections alone.
func TestEncodeLongInTheEnd(t *testing.T) {
	u := longestUnit(-20)
	u.Exports = []api.Export{{Name: strings.Repeat("e", 18)}}
	if s, e := kiln.Encode(u); len(s) != api.MaxBytes || e != api.OK {
		t.Errorf("P3: a unit of MaxBytes: %d bytes, %d", len(s), e)
	}
	u.Exports[0].Name += "e"
	if s, e := kiln.Encode(u); s != "" || e != api.ErrLong {
		t.Errorf("P3: a unit of more than MaxBytes: %d bytes, %d", len(s), e)
	}
}
