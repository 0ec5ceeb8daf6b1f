// Package testkit holds what the tests of several layers need; the program itself does not import it.
package testkit

// Numbers is a sequence of numbers that look random; its first value determines all of them.
type Numbers uint64

// Below returns the next number, from 0 to n - 1, for a positive n.
func (s *Numbers) Below(n int) int {
	*s = *s*6364136223846793005 + 1442695040888963407
	return int(uint64(*s>>33) % uint64(n))
}

// Wide returns the next number, of any size up to 64 bits.
func (s *Numbers) Wide() uint64 {
	v := uint64(s.Below(1<<31))<<33 ^ uint64(s.Below(1<<31))<<10 ^ uint64(s.Below(1<<10))
	return v >> s.Below(64)
}

// Spoil changes all bytes of b and of its unused capacity, which shows in whatever shares its memory.
func Spoil(b []byte) {
	b = b[:cap(b)]
	for k := range b {
		b[k] ^= 255
	}
}
