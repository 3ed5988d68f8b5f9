package kiln_test

import (
	"math/rand/v2"
	"reflect"
	"strings"
	"testing"

	"kiln/api"
	"kiln/kiln"
)

func refusedAt(t *testing.T, name, text string, place int) {
	t.Helper()
	u, e, at := kiln.Decode(text)
	if e != api.ErrForm || at != place || !reflect.DeepEqual(plain(u), api.Unit{}) {
		t.Errorf("P4: %s: %+v, %d, %d, want ErrForm and %d", name, u, e, at, place)
	}
}

func TestDecodeExamples(t *testing.T) {
	empty := bytesOf(api.Unit{})
	if u, e, at := kiln.Decode(empty); e != api.OK || at != 0 || !reflect.DeepEqual(plain(u), api.Unit{}) {
		t.Errorf("P4: the unit of nothing: %+v, %d, %d", u, e, at)
	}
	refusedAt(t, "its first 20 bytes", empty[:20], 19)
	refusedAt(t, "a byte 0 behind it", empty+"\x00", 40)
}

func TestDecodeOrdinaryUnits(t *testing.T) {
	r := rand.New(rand.NewPCG(5, 6))
	units := []api.Unit{{}, sample(), longestUnit(0)}
	for range 2000 {
		units = append(units, randomUnit(r))
	}
	for _, want := range units {
		text := bytesOf(want)
		u, e, at := kiln.Decode(text)
		if e != api.OK || at != 0 || !reflect.DeepEqual(plain(u), plain(want)) {
			t.Fatalf("P4: %.400x: %d, %d, or another unit", text, e, at)
		}
	}
}

// A unit at a bound is read; one beyond it is refused at the section in which it is beyond.
func TestDecodeBounds(t *testing.T) {
	for _, b := range countBounds() {
		u := sample()
		b.change(&u)
		decodeBound(t, b, u)
	}
	for _, b := range numberBounds() {
		u := sample()
		b.change(&u)
		if b.name == "Op" && !b.ok || b.name == "A" && !bodyTells(u, true) || b.name == "B" && !bodyTells(u, false) {
			continue // of these the bytes would be other instructions'
		}
		decodeBound(t, b, u)
	}
}

// bodyTells: whether the operand A (or B) of the sample's changed instruction stands in the bytes.
func bodyTells(u api.Unit, a bool) bool {
	switch op := u.Funcs[1].Code[1].Op; op {
	case api.Get, api.Set:
		return true
	case api.Const, api.Small, api.Load, api.Store, api.Jump, api.Zero, api.Call, api.New, api.Nil, api.IsNil:
		return a
	}
	return false
}

func decodeBound(t *testing.T, b bound, u api.Unit) {
	t.Helper()
	text, places := joined(bodiesOf(u))
	if b.ok {
		if v, e, at := kiln.Decode(text); e != api.OK || at != 0 || !reflect.DeepEqual(plain(v), plain(u)) {
			t.Errorf("P4: %s: %+v, %d, %d, though it is well formed", b.name, v, e, at)
		}
		return
	}
	sections := map[string]int{
		"Shapes": 0, "fields": 0, "kind of a field": 0, "Consts": 1,
		"Imports": 3, "Params of an import": 3, "name of an import": 3, "kind of an import's param": 3, "kind of an import's result": 3,
		"Exports": 4, "name of an export": 4, "Func of an export": 4,
	}
	k, ok := sections[b.name]
	if !ok {
		k = 2
	}
	refusedAt(t, b.name, text, places[k])
}

func TestDecodeLong(t *testing.T) {
	for _, text := range []string{
		strings.Repeat("x", api.MaxBytes+1),
		strings.Repeat("x", 9000000),
		bytesOf(longestUnit(0)) + "\x00",
		bytesOf(longestUnit(1)),
		bytesOf(largest()),
	} {
		if u, e, at := kiln.Decode(text); e != api.ErrLong || at != 0 || !reflect.DeepEqual(plain(u), api.Unit{}) {
			t.Errorf("P4: %d bytes: %d, %d", len(text), e, at)
		}
	}
	refusedAt(t, "MaxBytes of nothing", strings.Repeat("x", api.MaxBytes), 0)
	end := len(bytesOf(longestUnit(-1)))
	refusedAt(t, "MaxBytes with one too many", bytesOf(longestUnit(-1))+"\x00", end)
}

func TestDecodeWrongBeginning(t *testing.T) {
	rest := bytesOf(sample())[5:]
	for _, begin := range []string{"", "K", "KIL", "kiln\x01", "KILN\x00", "KILN\x02", "KILM\x01", " KILN\x01", "KILN\x81\x00"} {
		refusedAt(t, "beginning "+begin, begin+rest, 0)
	}
	for n := range 5 {
		refusedAt(t, "less than a beginning", "KILN\x01"[:n], 0)
	}
}

// Wherever the bytes are cut off, the section in which that is does not stand there whole.
func TestDecodeCutOff(t *testing.T) {
	text, places := joined(bodiesOf(sample()))
	for n := 5; n < len(text); n++ {
		refusedAt(t, "cut off", text[:n], sectionOf(places, n))
	}
	for _, more := range []string{"\x00", "\x06", "\x01\x01\x00\x8d\xef\x02\xd2", text} {
		refusedAt(t, "more behind", text+more, len(text))
	}
}

func sectionOf(places []int, n int) int {
	begin := 0
	for _, p := range places {
		if p <= n {
			begin = p
		}
	}
	return begin
}

// No byte can become another: either the check or what stands around it is wrong then.
func TestDecodeOtherBytes(t *testing.T) {
	text, places := joined(bodiesOf(sample()))
	for n := range text {
		for _, flip := range []byte{1, 2, 16, 64, 128, 255} {
			b := []byte(text)
			b[n] ^= flip
			refusedAt(t, "another byte", string(b), sectionOf(places, n))
		}
	}
}

func TestDecodeWrongSections(t *testing.T) {
	bodies := bodiesOf(sample())
	text, places := joined(bodies)
	for k := range 5 {
		begin, body := places[k], bodies[k]
		before, after := text[:begin], text[places[k+1]:]
		whole := section(k+1, body)
		sum := whole[len(whole)-4:]
		for name, wrong := range map[string]string{
			"left out":                 "",
			"the next number":          section(k+2, body),
			"the last number":          section(k, body),
			"the number 0":             section(0, body),
			"a number of two bytes":    string([]byte{byte(k+1) | 128, 0}) + whole[1:],
			"a length of two bytes":    whole[:1] + string([]byte{byte(len(body)) | 128, 0}) + body + sum,
			"a length too little":      whole[:1] + string([]byte{byte(len(body) - 1)}) + body + sum,
			"a length too great":       whole[:1] + string([]byte{byte(len(body) + 1)}) + body + sum,
			"a length beyond all":      whole[:1] + "\xff\xff\xff\xff\xff\xff\xff\xff\xff\x01" + body + sum,
			"a length of eleven bytes": whole[:1] + string([]byte{byte(len(body)) | 128}) + "\x80\x80\x80\x80\x80\x80\x80\x80\x80\x00" + body + sum,
			"the check turned round":   whole[:len(whole)-4] + string([]byte{sum[3], sum[2], sum[1], sum[0]}),
			"no check":                 whole[:len(whole)-4],
			"a body of nothing":        section(k+1, ""),
			"a body with more":         section(k+1, body+"\x00"),
			"a body with less":         section(k+1, body[:len(body)-1]),
			"a count of two bytes":     section(k+1, string([]byte{body[0] | 128, 0})+body[1:]),
			"a count too little":       section(k+1, string([]byte{body[0] - 1})+body[1:]),
			"a count too great":        section(k+1, string([]byte{body[0] + 1})+body[1:]),
			"a count beyond all":       section(k+1, "\xff\xff\xff\xff\xff\xff\xff\xff\xff\x01"+body[1:]),
			"a count of 63 bits":       section(k+1, "\xff\xff\xff\xff\xff\xff\xff\xff\x7f"+body[1:]),
			"the section twice":        whole + whole,
		} {
			place := begin
			if name == "the section twice" {
				place = places[k+1]
			}
			refusedAt(t, name, before+wrong+after, place)
		}
	}
}

// An empty body is no list: each section is refused where it begins itself, and the first is no other than the rest.
func TestDecodeEmptyBodies(t *testing.T) {
	refusedAt(t, "the first section alone, and empty", "KILN\x01\x01\x00\x00\x00\x00\x00", 5)
	for k := range 5 {
		bodies := []string{"\x00", "\x00", "\x00", "\x00", "\x00"}
		bodies[k] = ""
		text, places := joined(bodies)
		refusedAt(t, "an empty body", text, places[k])
		refusedAt(t, "an empty body in the end", text[:places[k+1]], places[k])
	}
}

func TestDecodeWrongBodies(t *testing.T) {
	code := func(ins string) string { return "\x01\x00\x00\x00\x01" + ins }
	for _, c := range []struct {
		name    string
		section int
		body    string
	}{
		{"a shape of no field", 1, "\x01\x00"},
		{"a kind of no shape", 1, "\x01\x01\x02"},
		{"a kind in two bytes", 1, "\x01\x01\x81\x00"},
		{"a kind of 2^63", 1, "\x01\x01\x80\x80\x80\x80\x80\x80\x80\x80\x80\x01"},
		{"a const in two bytes", 2, "\x01\x80\x00"},
		{"a const in ten bytes that has fewer", 2, "\x01\x80\x80\x80\x80\x80\x80\x80\x80\x80\x00"},
		{"a const of 65 bits", 2, "\x01\xff\xff\xff\xff\xff\xff\xff\xff\xff\x02"},
		{"a const of eleven bytes", 2, "\x01\xff\xff\xff\xff\xff\xff\xff\xff\xff\x81\x00"},
		{"a const of eleven bytes, with bits of 0", 2, "\x01\x80\x80\x80\x80\x80\x80\x80\x80\x80\x80\x01"},
		{"a const that does not end", 2, "\x01\xff"},
		{"a param of no shape", 3, "\x01\x01\x01\x00\x00\x01\x0e"},
		{"a local of no shape", 3, "\x01\x00\x01\x01\x00\x01\x0e"},
		{"a result of no shape", 3, "\x01\x00\x00\x01\x01\x0e"},
		{"a result in two bytes", 3, "\x01\x00\x00\x80\x00\x01\x0e"},
		{"a function of no code", 3, "\x01\x00\x00\x00\x00"},
		{"no such op", 3, code("\x15")},
		{"an op in two bytes", 3, code("\x8e\x00")},
		{"an operand in more bytes than it needs", 3, code("\x02\x80\x00")},
		{"an operand above MaxOperand", 3, code("\x02\x80\x80\x04")},
		{"a second operand above MaxOperand", 3, code("\x10\x00\x80\x80\x04")},
		{"an operand of 2^63", 3, code("\x02\x80\x80\x80\x80\x80\x80\x80\x80\x80\x01")},
		{"an operand of 2^64", 3, code("\x02\x80\x80\x80\x80\x80\x80\x80\x80\x80\x02")},
		{"no operand", 3, code("\x02")},
		{"no second operand", 3, code("\x11\x00")},
		{"an operand that is not named", 3, code("\x14\x00")},
		{"a second operand that is not named", 3, code("\x02\x00\x00")},
		{"a Small above the greatest", 3, code("\x01\x80\x80\x80\x80\x10")},
		{"a Small below the least", 3, code("\x01\x81\x80\x80\x80\x10")},
		{"a name of no bytes", 4, "\x01\x00\x00\x00"},
		{"a name of more bytes than there are", 4, "\x01\x05a\x00\x00"},
		{"a name whose length has two bytes", 4, "\x01\x81\x00a\x00\x00"},
		{"a name of 2^64 - 1 bytes", 4, "\x01\xff\xff\xff\xff\xff\xff\xff\xff\xff\x01a\x00\x00"},
		{"an import's param of no shape", 4, "\x01\x01a\x01\x01\x00"},
		{"an import's result of no shape", 4, "\x01\x01a\x00\x01"},
		{"an export of no function", 5, "\x01\x01a\x00"},
		{"an export of a name of no bytes", 5, "\x01\x00\x00"},
	} {
		bodies := []string{"\x00", "\x00", "\x00", "\x00", "\x00"}
		bodies[c.section-1] = c.body
		text, places := joined(bodies)
		refusedAt(t, c.name, text, places[c.section-1])
	}
}

// An import is no function that may be exported.
func TestDecodeExportOfAnImport(t *testing.T) {
	bodies := []string{"\x00", "\x00", "\x01\x00\x00\x00\x01\x0e", "\x01\x01i\x00\x00", "\x01\x01a\x01"}
	text, places := joined(bodies)
	refusedAt(t, "an export of an import", text, places[4])
}

// Of several sections that are wrong, the first is told.
func TestDecodeTellsTheFirst(t *testing.T) {
	for first := range 5 {
		bodies := []string{"\x00", "\x00", "\x00", "\x00", "\x00"}
		for k := first; k < 5; k++ {
			bodies[k] = "\x01"
		}
		text, places := joined(bodies)
		refusedAt(t, "several", text+"\x00", places[first])
	}
}

// With a body changed and its check right, what is read is just what it is the bytes of, and what is refused is refused at that section or behind it.
func TestDecodeChangedBodies(t *testing.T) {
	r := rand.New(rand.NewPCG(7, 8))
	read := 0
	for range 20000 {
		bodies := bodiesOf(randomUnit(r))
		k := r.IntN(5)
		b := []byte(bodies[k])
		b[r.IntN(len(b))] = byte(r.Uint32()) >> r.IntN(8)
		bodies[k] = string(b)
		text, places := joined(bodies)
		u, e, at := kiln.Decode(text)
		if e == api.OK {
			read++
			if again, e := kiln.Encode(u); again != text || e != api.OK {
				t.Fatalf("P4: %x was read, but its unit's bytes are %x, %d", text, again, e)
			}
		} else if e != api.ErrForm || at < places[k] || at >= len(text) || sectionOf(places, at) != at {
			t.Fatalf("P4: %x: %d, %d", text, e, at)
		}
	}
	if read < 100 {
		t.Errorf("only %d changed texts could be read: too few to tell", read)
	}
}

func FuzzDecode(f *testing.F) {
	f.Add(bytesOf(api.Unit{}))
	f.Add(bytesOf(sample()))
	f.Fuzz(func(t *testing.T, text string) {
		u, e, at := kiln.Decode(text)
		switch e {
		case api.OK:
			if again, e := kiln.Encode(u); again != text || e != api.OK || at != 0 {
				t.Errorf("%x was read, but its unit's bytes are %x, %d", text, again, e)
			}
		case api.ErrForm:
			if at < 0 || at > len(text) {
				t.Errorf("%x: the place %d", text, at)
			}
		default:
			if e != api.ErrLong || at != 0 || len(text) <= api.MaxBytes {
				t.Errorf("%x: %d, %d", text, e, at)
			}
		}
	})
}

// FuzzBodies puts any bodies into sections that are right.
func FuzzBodies(f *testing.F) {
	for _, u := range []api.Unit{{}, sample()} {
		b := bodiesOf(u)
		f.Add(b[0], b[1], b[2], b[3], b[4])
	}
	f.Fuzz(func(t *testing.T, a, b, c, d, e string) {
		text, places := joined([]string{a, b, c, d, e})
		u, no, at := kiln.Decode(text)
		if no == api.OK {
			if again, no := kiln.Encode(u); again != text || no != api.OK {
				t.Errorf("%x was read, but its unit's bytes are %x, %d", text, again, no)
			}
		} else if no == api.ErrForm && (at >= len(text) || sectionOf(places, at) != at) {
			t.Errorf("%x: the place %d", text, at)
		}
	})
}
