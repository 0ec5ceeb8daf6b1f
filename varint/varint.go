// Package varint is layer 1: see shared/doc/01-varint.md.
package varint

import (
	"math/bits"

	"regcert/api"
)

const (
	digitBits = 7
	digitMask = 1<<digitBits - 1
	more      = 1 << digitBits // added to every digit that another one follows
	lastIndex = 9              // index of the longest encoding's last byte, which has room for a single bit
)

// Len returns the length of the encoding of v.
func Len(v uint64) int {
	// 0 has a digit too, as many as 1 has.
	return (bits.Len64(v|1) + digitBits - 1) / digitBits
}

// Put returns the encoding of v.
func Put(v uint64) []byte {
	b := make([]byte, Len(v))
	for k := range len(b) {
		b[k] = byte(v&digitMask) | more
		v >>= digitBits
	}
	b[len(b)-1] -= more
	return b
}

// Get decodes the integer at the beginning of b and returns it with the length of its encoding.
func Get(b []byte) (uint64, int, api.Errno) {
	var v uint64
	for k := range len(b) {
		d := b[k]
		// A 0 behind the first byte is a leading zero digit, and a last byte above 1 does not fit in 64 bits.
		if k == lastIndex && d > 1 || k > 0 && d == 0 {
			return 0, 0, api.ErrVarint
		}
		v |= uint64(d&digitMask) << (digitBits * k)
		if d < more {
			return v, k + 1, api.OK
		}
	}
	return 0, 0, api.ErrShort
}

// Zigzag returns the zigzag code of n.
func Zigzag(n int64) uint64 {
	// The shifted sign is all ones for a negative n, and inverting 2n gives -2n - 1.
	return uint64(n)<<1 ^ uint64(n>>63)
}

// Unzigzag returns the integer whose zigzag code is u.
func Unzigzag(u uint64) int64 {
	return int64(u>>1) ^ -int64(u&1)
}
