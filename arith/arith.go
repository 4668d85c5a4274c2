// Package arith: Sums and flags: see doc/01-arith.md.
package arith

import (
	"saltern/api"
)

// Add: P1.2.
func Add(a, b uint32, size int, carry bool) (uint32, api.Flags) {
	a, b = Cut(a, size), Cut(b, size)
	// Of 64 bits: the carry out of 32 bits must not get lost.
	whole := uint64(a) + uint64(b) + one(carry)
	sum, f := Logic(uint32(whole), size)
	f.C = whole>>width(size) != 0
	f.O = high((a^sum)&(b^sum), size)
	return sum, f
}

// Sub: P1.2.
func Sub(a, b uint32, size int, borrow bool) (uint32, api.Flags) {
	a, b = Cut(a, size), Cut(b, size)
	// Of 64 bits: b and the borrow together may need 33 of them.
	taken := uint64(b) + one(borrow)
	rest, f := Logic(uint32(uint64(a)-taken), size)
	f.C = uint64(a) < taken
	f.O = high((a^b)&(a^rest), size)
	return rest, f
}

// Logic: P1.2. Sums take Z, S, P from here, as these hang on the result alone.
func Logic(v uint32, size int) (uint32, api.Flags) {
	v = Cut(v, size)
	return v, api.Flags{Z: v == 0, S: high(v, size), P: Parity(v)}
}

// Step: P1.3. C is kept, so that a count does not break a chain of sums with carries.
func Step(f api.Flags, v uint32, size int, by int) (uint32, api.Flags) {
	r, g := Sub(v, 1, size, false)
	if by > 0 {
		r, g = Add(v, 1, size, false)
	}
	g.C, g.D = f.C, f.D
	return r, g
}

// Cut: P1.1.
func Cut(v uint32, size int) uint32 {
	unused := 32 - width(size)
	return v << unused >> unused
}

// Signed: P1.1. The number goes to the top of an int32, so that its own sign fills the bits when it comes back.
func Signed(v uint32, size int) int32 {
	unused := 32 - width(size)
	return int32(v<<unused) >> unused
}

// Parity: P1.1. Each half is laid over the other one, as two equal bits take nothing from an even count.
func Parity(v uint32) bool {
	b := uint8(v)
	b ^= b >> 4
	b ^= b >> 2
	b ^= b >> 1
	return b&1 == 0
}

// width: bits of a size. No size is refused, as the layer has no errors.
func width(size int) uint {
	switch {
	case size < 2:
		return 8
	case size < 4:
		return 16
	}
	return 32
}

// high: the highest bit within size, where a sum keeps its sign.
func high(v uint32, size int) bool {
	return v>>(width(size)-1)&1 != 0
}

// one: a carry as a number, as Go turns no bool into one.
func one(carry bool) uint64 {
	if carry {
		return 1
	}
	return 0
}
