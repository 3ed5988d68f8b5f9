// Package wire writes units as bytes and reads them. What it can't write or read it gives up, by a panic with a giveup.Refusal.
package wire

// What every unit's bytes begin with.
const head = "KILN\x01"

// The numbers of the sections.
const (
	shapesSection = iota + 1
	constsSection
	funcsSection
	importsSection
	exportsSection
)

const checkBytes = 4

// check goes bit by bit: a table for whole bytes would be larger than package-level tables may be, and 20000 bytes are soon done.
func check(body string) uint32 {
	c := ^uint32(0)
	for i := range len(body) {
		c ^= uint32(body[i])
		for range 8 {
			if c&1 == 1 {
				c = c>>1 ^ 3988292384
			} else {
				c >>= 1
			}
		}
	}
	return ^c
}
