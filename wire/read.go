package wire

import (
	"math"
	"strings"

	"kiln/api"
	"kiln/giveup"
	"kiln/wellformed"
)

// Read tells the unit of the bytes. It gives up with ErrLong, or with ErrForm and the place.
func Read(text string) api.Unit {
	giveup.Refusal{E: api.ErrLong}.Unless(len(text) <= api.MaxBytes)
	giveup.Refusal{E: api.ErrForm}.Unless(strings.HasPrefix(text, head))
	var u api.Unit
	var why giveup.Refusal
	s := &sections{text: text, at: len(head)}
	u.Shapes, why = readSection(s, shapesSection, readKinds)
	wellformed.Shapes(u.Shapes, why)
	u.Consts, why = readSection(s, constsSection, readSigned)
	wellformed.Consts(u.Consts, why)
	u.Funcs, why = readSection(s, funcsSection, readFunc)
	wellformed.Funcs(u.Funcs, len(u.Shapes), why)
	u.Imports, why = readSection(s, importsSection, readImport)
	wellformed.Imports(u.Imports, len(u.Shapes), why)
	u.Exports, why = readSection(s, exportsSection, readExport)
	wellformed.Exports(u.Exports, len(u.Funcs), why)
	giveup.Refusal{E: api.ErrForm, At: s.at}.Unless(s.at == len(text))
	return u
}

// sections goes through a unit's bytes.
type sections struct {
	text string
	at   int
}

// readSection tells the list, and how to refuse it if it is wrong as a whole.
func readSection[T any](s *sections, number byte, readOne func(*cursor) T) ([]T, giveup.Refusal) {
	body := s.open(number)
	list := readList(body, readOne)
	body.why.Unless(body.rest == "")
	return list, body.why
}

// open tells the body of the section that begins here, and goes behind it. The body comes with its own refusal, since one kept in s and changed by each section could be asked in the statement that changes it, in an order that Go leaves open.
func (s *sections) open(number byte) *cursor {
	c := &cursor{rest: s.text[s.at:], why: giveup.Refusal{E: api.ErrForm, At: s.at}}
	c.why.Unless(readByte(c) == number)
	body := c.take(readNumber(c))
	sum := check(body)
	for range checkBytes {
		c.why.Unless(readByte(c) == byte(sum))
		sum >>= 8
	}
	s.at = len(s.text) - len(c.rest)
	return &cursor{rest: body, why: c.why}
}

// cursor is at the bytes that are not read yet. Whatever is wrong with them is refused by why, which tells where their section begins.
type cursor struct {
	rest string
	why  giveup.Refusal
}

func (c *cursor) take(n uint64) string {
	c.why.Unless(n <= uint64(len(c.rest)))
	taken := c.rest[:n]
	c.rest = c.rest[n:]
	return taken
}

func readByte(c *cursor) byte {
	return c.take(1)[0]
}

func readNumber(c *cursor) uint64 {
	var v uint64
	for shift := 0; ; shift += 7 {
		b := readByte(c)
		low := uint64(b & 127)
		// Bits that 64 have no room for are no number's here.
		c.why.Unless(low<<shift>>shift == low)
		v |= low << shift
		if b < 128 {
			// A last byte of 0 behind others could have been left out.
			c.why.Unless(b != 0 || shift == 0)
			return v
		}
	}
}

func readSigned(c *cursor) int {
	v := readNumber(c)
	if v&1 == 1 {
		return int(^(v >> 1))
	}
	return int(v >> 1)
}

func readWhole(c *cursor) int {
	v := readNumber(c)
	c.why.Unless(v <= math.MaxInt)
	return int(v)
}

func readText(c *cursor) string {
	// A copy, so that a name does not keep all the bytes that were handed in.
	return strings.Clone(c.take(readNumber(c)))
}

func readList[T any](c *cursor, readOne func(*cursor) T) []T {
	n := readNumber(c)
	// Each element has a byte at least: so a count can't ask for more room than the bytes are worth.
	c.why.Unless(n <= uint64(len(c.rest)))
	list := make([]T, n)
	for i := range list {
		list[i] = readOne(c)
	}
	return list
}

func readKinds(c *cursor) []int {
	return readList(c, readWhole)
}

func readFunc(c *cursor) api.Func {
	var f api.Func
	f.Params = readKinds(c)
	f.Locals = readKinds(c)
	f.Result = readWhole(c)
	f.Code = readList(c, readIns)
	return f
}

func readIns(c *cursor) api.Ins {
	i := api.Ins{Op: int(readByte(c))}
	// How many operands there are to read is known of true instructions alone.
	c.why.Unless(wellformed.Op(i.Op))
	if i.Op == api.Small {
		i.A = readSigned(c)
		return i
	}
	named := wellformed.Operands(i.Op)
	if named >= 1 {
		i.A = readWhole(c)
	}
	if named >= 2 {
		i.B = readWhole(c)
	}
	return i
}

func readImport(c *cursor) api.Import {
	var i api.Import
	i.Name = readText(c)
	i.Params = readKinds(c)
	i.Result = readWhole(c)
	return i
}

func readExport(c *cursor) api.Export {
	var e api.Export
	e.Name = readText(c)
	e.Func = readWhole(c)
	return e
}
