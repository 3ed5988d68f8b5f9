package wire

import (
	"hash/crc32"
	"math/rand/v2"
	"testing"
)

func TestCheck(t *testing.T) {
	if c := check("\x00"); c != 0xd202ef8d {
		t.Errorf("the check of a byte 0: %x", c)
	}
	random := rand.New(rand.NewPCG(1, 2))
	for n := range 300 {
		body := make([]byte, n)
		for i := range body {
			body[i] = byte(random.Uint32())
		}
		if got, want := check(string(body)), crc32.ChecksumIEEE(body); got != want {
			t.Errorf("the check of %x: %x, want %x", body, got, want)
		}
	}
}
