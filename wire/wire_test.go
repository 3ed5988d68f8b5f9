package wire

import (
	"hash/crc32"
	"math/rand/v2"
	"testing"

	"kiln/api"
	"kiln/giveup"
)

// A body bears the refusal of its own section as soon as it is opened, whatever was opened before.
func TestOpenTellsItsOwnPlace(t *testing.T) {
	text := Write(api.Unit{Consts: []int{7}})
	s := &sections{text: text, at: len(head)}
	places := []int{5, 12, 20, 27, 34}
	bodies := []string{"\x00", "\x01\x0e", "\x00", "\x00", "\x00"}
	var opened []*cursor
	for i := range bodies {
		opened = append(opened, s.open(byte(i+1)))
	}
	for i, c := range opened {
		if want := (giveup.Refusal{E: api.ErrForm, At: places[i]}); c.rest != bodies[i] || c.why != want {
			t.Errorf("section %d: %x, %v, want %x, %v", i+1, c.rest, c.why, bodies[i], want)
		}
	}
}

func TestCheck(t *testing.T) {
	if c := check("\x00"); c != 0xd202ef8d {
		t.Errorf("the check of a byte 0: %x", c)
	}
	random := rand.New(rand.NewPCG(1, 2))
	for n := range 300 {
		body := make([]byte, n)
		for i := range body {
			body[i] = byte(random.Uint32())
		}
		if got, want := check(string(body)), crc32.ChecksumIEEE(body); got != want {
			t.Errorf("the check of %x: %x, want %x", body, got, want)
		}
	}
}
