package kiln_test

import (
	"math/rand/v2"
	"reflect"
	"slices"
	"strings"
	"testing"

	"kiln/api"
	"kiln/kiln"
)

func linksTo(t *testing.T, name string, units []api.Unit, want api.Unit) {
	t.Helper()
	u, e, k := kiln.Link(units)
	if e != api.OK || k != 0 || !reflect.DeepEqual(plain(u), plain(want)) {
		t.Errorf("P5: %s: %+v, %d, %d, want %+v", name, u, e, k, want)
	}
}

func links(t *testing.T, name string, units []api.Unit) {
	t.Helper()
	linksTo(t, name, units, together(units))
}

func linkRefused(t *testing.T, name string, units []api.Unit, want api.Errno, number int) {
	t.Helper()
	u, e, k := kiln.Link(units)
	if e != want || k != number || !reflect.DeepEqual(plain(u), api.Unit{}) {
		t.Errorf("P5: %s: %+v, %d, %d, want %d and %d", name, u, e, k, want, number)
	}
}

func TestLinkNumbers(t *testing.T) {
	ret := api.Ins{Op: api.Ret}
	units := trio()
	// A Call of the import, which the middle unit has of the one behind it, and of its own functions; everything else stays.
	units[1].Funcs[1].Code = code(call(0), call(1), call(2), constant(0), api.Ins{Op: api.Small, A: 1}, api.Ins{Op: api.Load, A: 1}, api.Ins{Op: api.Jump, A: 1}, api.Ins{Op: api.Zero, A: 2}, api.Ins{Op: api.Get, A: 1, B: 1}, api.Ins{Op: api.New, A: 1}, api.Ins{Op: api.Nil, A: 2})
	function := func(list ...api.Ins) api.Func {
		return api.Func{Params: []int{0, 1}, Result: 2, Locals: []int{1}, Code: list}
	}
	linksTo(t, "three units", units, api.Unit{
		Shapes: [][]int{{0, 1}, {2}},
		Consts: []int{0, 10, 20},
		Funcs: []api.Func{
			function(constant(0), call(2), ret),
			{Code: code(call(0), ret)},
			function(constant(1), call(4), ret),
			{Code: code(call(2), call(3), call(4), constant(1), api.Ins{Op: api.Small, A: 1}, api.Ins{Op: api.Load, A: 1}, api.Ins{Op: api.Jump, A: 1}, api.Ins{Op: api.Zero, A: 2}, api.Ins{Op: api.Get, A: 1, B: 1}, api.Ins{Op: api.New, A: 1}, api.Ins{Op: api.Nil, A: 2})},
			function(constant(2), call(0), ret),
			{Code: code(call(4), ret)},
		},
		Exports: []api.Export{{Name: "a1", Func: 1}, {Name: "a2", Func: 0}, {Name: "b1", Func: 3}, {Name: "b2", Func: 2}, {Name: "c1", Func: 5}, {Name: "c2", Func: 4}},
	})
}

// A number that the unit does not have becomes no other unit's.
func TestLinkNoSuchNumber(t *testing.T) {
	units := trio()
	for i := range units {
		units[i].Consts = []int{i, i}
		units[i].Funcs[0].Code = code(constant(0), constant(1), constant(2), constant(5), constant(6), constant(65534), constant(65535))
		units[i].Funcs[1].Code = code(call(0), call(1), call(2), call(3), call(5), call(6), call(65534), call(65535))
	}
	u, e, _ := kiln.Link(units)
	if e != api.OK {
		t.Fatalf("P5: %d", e)
	}
	const no = 65535
	for i := range units {
		consts := code(constant(2*i), constant(2*i+1), constant(no), constant(no), constant(no), constant(no), constant(no))
		calls := code(call(2*i), call(2*i+1), call(2*i+2), call(no), call(no), call(no), call(no), call(no))
		if i == 2 {
			calls[2].A = 0
		}
		if got := u.Funcs[2*i].Code; !slices.Equal(got, consts) {
			t.Errorf("P5: unit %d: %v, want %v", i, got, consts)
		}
		if got := u.Funcs[2*i+1].Code; !slices.Equal(got, calls) {
			t.Errorf("P5: unit %d: %v, want %v", i, got, calls)
		}
	}
	// A unit that has none at all, and one that is linked alone.
	bare := api.Unit{Funcs: []api.Func{{Code: code(constant(0), call(1), call(0))}}}
	linksTo(t, "a unit of no consts", []api.Unit{bare}, api.Unit{Funcs: []api.Func{{Code: code(constant(no), call(no), call(0))}}})
}

func TestLinkOne(t *testing.T) {
	linksTo(t, "the unit of nothing", []api.Unit{{}}, api.Unit{})
	alone := sample()
	alone.Imports = nil
	alone.Funcs[0].Code[2].A = 1
	linksTo(t, "a unit that imports nothing", []api.Unit{alone}, alone)
	itself := trio()[:1]
	itself[0].Imports[0].Name = "a2"
	want := plain(itself[0])
	want.Imports = nil
	want.Funcs[0].Code[1].A = 0
	linksTo(t, "a unit that imports its own export", itself, want)
}

func TestLinkImports(t *testing.T) {
	units := trio()
	units[0].Imports = append(units[0].Imports, api.Import{Name: "b2", Params: []int{0, 1}, Result: 2}, api.Import{Name: "c1"}, api.Import{Name: "a1"})
	units[0].Funcs[1].Code = code(call(5), call(4), call(3), call(2), call(6))
	u, e, _ := kiln.Link(units)
	if want := code(call(1), call(5), call(2), call(2), call(65535)); e != api.OK || !slices.Equal(u.Funcs[1].Code, want) {
		t.Errorf("P5: imports of one name twice, and of several: %+v, %d, want %v", u, e, want)
	}
	units = trio()
	units[1].Exports = append(units[1].Exports, api.Export{Name: "more", Func: 0})
	units[2].Imports = append(units[2].Imports, api.Import{Name: "more", Params: []int{0, 1}, Result: 2})
	units[2].Funcs[1].Code = code(call(3))
	u, e, _ = kiln.Link(units)
	if e != api.OK || u.Funcs[5].Code[0] != call(2) || !slices.Contains(u.Exports, api.Export{Name: "more", Func: 2}) {
		t.Errorf("P5: a function of two names: %+v, %d", u, e)
	}
}

func TestLinkMany(t *testing.T) {
	linkRefused(t, "no units", nil, api.ErrMany, 0)
	linkRefused(t, "an empty list", []api.Unit{}, api.ErrMany, 0)
	for n := 1; n <= api.MaxUnits; n++ {
		linksTo(t, "units of nothing", make([]api.Unit, n), api.Unit{})
	}
	for _, n := range []int{7, 8, 1000000} {
		linkRefused(t, "too many units", make([]api.Unit, n), api.ErrMany, 0)
	}
}

// Whatever makes a unit not well formed makes it so for Link too.
func TestLinkBoundsOfAUnit(t *testing.T) {
	for _, b := range joinedBounds(countBounds(), numberBounds()) {
		u := sample()
		b.change(&u)
		_, e, k := kiln.Link([]api.Unit{sample(), u, u})
		if !b.ok && (e != api.ErrUnit || k != 1) {
			t.Errorf("P5: %s: %d, %d, though it is not well formed", b.name, e, k)
		}
		if b.ok && e == api.ErrUnit {
			t.Errorf("P5: %s: ErrUnit, %d, though it is well formed", b.name, k)
		}
	}
}

// spoiler makes an error apply to the unit i of those that trio gives.
type spoiler struct {
	name  string
	e     api.Errno
	spoil func(units []api.Unit, i int)
}

func spoilers() []spoiler {
	return []spoiler{
		{"an export of no function", api.ErrUnit, func(units []api.Unit, i int) { units[i].Exports[1].Func = 2 }},
		{"no code", api.ErrUnit, func(units []api.Unit, i int) { units[i].Funcs[1].Code = nil }},
		{"an operand", api.ErrUnit, func(units []api.Unit, i int) { units[i].Funcs[1].Code[0].A = 65536 }},
		{"another field", api.ErrShapes, func(units []api.Unit, i int) { units[i].Shapes[0][1] = 2 }},
		{"one field more", api.ErrShapes, func(units []api.Unit, i int) { units[i].Shapes[1] = []int{2, 0} }},
		{"one field less", api.ErrShapes, func(units []api.Unit, i int) { units[i].Shapes[0] = []int{0} }},
		{"one shape more", api.ErrShapes, func(units []api.Unit, i int) { units[i].Shapes = append(units[i].Shapes, []int{0}) }},
		{"the shapes the other way round", api.ErrShapes, func(units []api.Unit, i int) { slices.Reverse(units[i].Shapes) }},
		{"a name twice", api.ErrTwice, func(units []api.Unit, i int) {
			units[i].Exports = append(units[i].Exports, units[i].Exports[0])
		}},
		{"a name twice, of two functions", api.ErrTwice, func(units []api.Unit, i int) {
			units[i].Exports = append(units[i].Exports, api.Export{Name: units[i].Exports[0].Name, Func: 0})
		}},
		{"a name that none exports", api.ErrNone, func(units []api.Unit, i int) {
			units[i].Imports = append(units[i].Imports, api.Import{Name: "a"})
		}},
		{"a name that differs in its case", api.ErrNone, func(units []api.Unit, i int) {
			units[i].Imports[0].Name = strings.ToUpper(units[i].Imports[0].Name)
		}},
		{"a name with a byte 0 behind it", api.ErrNone, func(units []api.Unit, i int) { units[i].Imports[0].Name += "\x00" }},
		{"another result", api.ErrSig, func(units []api.Unit, i int) { units[i].Imports[0].Result = 1 }},
		{"a param less", api.ErrSig, func(units []api.Unit, i int) { units[i].Imports[0].Params = []int{0} }},
		{"a param more", api.ErrSig, func(units []api.Unit, i int) { units[i].Imports[0].Params = []int{0, 1, 0} }},
		{"no params", api.ErrSig, func(units []api.Unit, i int) { units[i].Imports[0].Params = nil }},
		{"params the other way round", api.ErrSig, func(units []api.Unit, i int) { units[i].Imports[0].Params = []int{1, 0} }},
		{"another param", api.ErrSig, func(units []api.Unit, i int) { units[i].Imports[0].Params = []int{0, 2} }},
		{"one import right, one not", api.ErrSig, func(units []api.Unit, i int) {
			units[i].Imports = append(units[i].Imports, units[i].Imports[0])
			units[i].Imports[1].Result = 0
		}},
	}
}

func TestLinkErrors(t *testing.T) {
	links(t, "what is not spoilt", trio())
	for _, s := range spoilers() {
		for i := range 3 {
			units := trio()
			s.spoil(units, i)
			number := i
			if s.e == api.ErrShapes && i == 0 {
				number = 1 // of other shapes is the next one then
			}
			linkRefused(t, s.name, units, s.e, number)
		}
	}
}

// A name that two units export: the later one is told.
func TestLinkTwice(t *testing.T) {
	for i := range 3 {
		for k := range i {
			units := trio()
			units[i].Exports = append(units[i].Exports, units[k].Exports[1])
			linkRefused(t, "a name of two units", units, api.ErrTwice, i)
			units = trio()
			units[k].Exports = append(units[k].Exports, units[i].Exports[0])
			linkRefused(t, "a later unit's name", units, api.ErrTwice, i)
		}
	}
	units := trio()
	units[2].Imports = append(units[2].Imports, api.Import{Name: "c1"})
	links(t, "a name that is imported and exported", units)
}

// Of two errors the one named first is told, wherever they are; of one error in two units, the first unit.
func TestLinkErrorsInTheirOrder(t *testing.T) {
	for _, first := range spoilers() {
		for _, second := range spoilers() {
			for i := range 3 {
				for k := range 3 {
					if i == k || first.e > second.e || first.e == api.ErrShapes && i == 0 || second.e == api.ErrShapes && k == 0 {
						continue
					}
					units := trio()
					first.spoil(units, i)
					second.spoil(units, k)
					number := i
					if first.e == second.e {
						number = min(i, k)
					}
					linkRefused(t, first.name+", "+second.name, units, first.e, number)
				}
			}
		}
	}
}

// fill makes the units have more consts, functions or exports.
func fill(u *api.Unit, consts, funcs, exports int) {
	u.Consts = append(u.Consts, make([]int, consts)...)
	for range funcs {
		u.Funcs = append(u.Funcs, api.Func{Code: code(api.Ins{Op: api.Ret})})
	}
	for range exports {
		u.Exports = append(u.Exports, api.Export{Name: "more" + string(rune('A'+len(u.Exports)))})
	}
}

// trio has 3 consts, 6 functions and 6 exports.
func TestLinkBig(t *testing.T) {
	for _, c := range []struct {
		name                   string
		consts, funcs, exports int
		e                      api.Errno
	}{
		{"all bounds together", 47, 24, 14, api.OK},
		{"a const too many", 48, 0, 0, api.ErrBig},
		{"a function too many", 0, 25, 0, api.ErrBig},
		{"an export too many", 0, 0, 15, api.ErrBig},
		{"all of them too many", 49, 28, 18, api.ErrBig},
	} {
		for i := range 3 {
			units := trio()
			fill(&units[i], c.consts, c.funcs, c.exports)
			if c.e == api.OK {
				links(t, c.name, units)
			} else {
				linkRefused(t, c.name, units, c.e, 0)
			}
		}
	}
	six := make([]api.Unit, 6)
	for i := range six {
		fill(&six[i], 8, 5, 0)
	}
	links(t, "six units of five functions", six)
	fill(&six[3], 2, 0, 0)
	links(t, "and two consts more", six)
	fill(&six[5], 1, 0, 0)
	linkRefused(t, "and one const more", six, api.ErrBig, 0)
	for i := range six {
		six[i].Consts, six[i].Imports = nil, make([]api.Import, api.MaxNames)
		for k := range six[i].Imports {
			six[i].Imports[k].Name = "f"
		}
	}
	six[5].Exports = []api.Export{{Name: "f"}}
	links(t, "many imports together", six)
}

// What is too big together is told behind all other errors.
func TestLinkBigComesLast(t *testing.T) {
	for _, s := range spoilers() {
		units := trio()
		fill(&units[0], 49, 28, 0)
		s.spoil(units, 2)
		linkRefused(t, s.name+", and too big", units, s.e, 2)
	}
	for _, s := range spoilers() {
		units := append(trio(), make([]api.Unit, 4)...)
		s.spoil(units, 0)
		linkRefused(t, s.name+", and too many", units, api.ErrMany, 0)
	}
}

func TestLinkRandomUnits(t *testing.T) {
	r := rand.New(rand.NewPCG(17, 18))
	seen := map[api.Errno]int{}
	for range 20000 {
		units := randomUnits(r)
		want, wantE, wantK := linked(units)
		u, e, k := kiln.Link(units)
		seen[e]++
		if e != wantE || k != wantK || !reflect.DeepEqual(plain(u), plain(want)) {
			t.Fatalf("P5: %+v: %+v, %d, %d, want %+v, %d, %d", units, u, e, k, want, wantE, wantK)
		}
		if _, again := kiln.Encode(u); again == api.ErrUnit {
			t.Fatalf("P5: %+v: %+v is not well formed", units, u)
		}
	}
	for _, e := range []api.Errno{api.OK, api.ErrUnit, api.ErrShapes, api.ErrTwice, api.ErrNone, api.ErrSig, api.ErrBig} {
		if seen[e] < 50 {
			t.Errorf("the error %d came out only %d times: too few to tell", e, seen[e])
		}
	}
}
