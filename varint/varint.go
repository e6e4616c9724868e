// Package varint is layer 1: whole numbers by sevens of bits, in one form alone. See shared/doc/01-varint.md.
package varint

import (
	"garner/api"
)

const (
	sevens = 7    // bits of a number in a byte
	more   = 0x80 // the bit by which a byte says that another follows
	most   = 10   // bytes that a number has at most
)

// Put answers the shortest forms of ns, one behind the other.
func Put(ns ...uint64) []byte {
	b := make([]byte, 0, len(ns))
	for _, n := range ns {
		for n >= more {
			b = append(b, byte(n)|more)
			n >>= sevens
		}
		b = append(b, byte(n))
	}
	return b
}

// Get reads the number that begins at the place at, and answers it and the place behind it.
func Get(b []byte, at int) (uint64, int, api.Errno) {
	if at < 0 || at > len(b) {
		return 0, 0, api.ErrArg
	}
	var n uint64
	for i, c := range b[at:] {
		if i == most-1 && c > 1 { // only one bit of 64 is left for this byte, and none may follow it
			return 0, 0, api.ErrForm
		}
		n |= uint64(c&^more) << (sevens * i)
		if c >= more {
			continue
		}
		if c == 0 && i > 0 { // without it the form would be shorter
			return 0, 0, api.ErrForm
		}
		return n, at + i + 1, api.OK
	}
	return 0, 0, api.ErrShort
}

// Zig maps n to a number without a sign, so that what is near 0 has few bytes: 2n, or -2n - 1 below 0.
func Zig(n int64) uint64 {
	if n < 0 {
		return ^(uint64(n) << 1) // -x - 1 is ^x, and so the least int64 doesn't overflow
	}
	return uint64(n) << 1
}

// Zag answers the n of which Zig is u.
func Zag(u uint64) int64 {
	half := int64(u >> 1)
	if u&1 == 1 {
		return ^half
	}
	return half
}
