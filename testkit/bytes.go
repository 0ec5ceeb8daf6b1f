package testkit

import "slices"

// Digits returns the encodings of numbers that are not negative, one after the other, by the wording of layer 1.
func Digits[N int | uint64](numbers ...N) []byte {
	var b []byte
	for _, n := range numbers {
		for ; n >= 128; n /= 128 {
			b = append(b, byte(n%128)+128)
		}
		b = append(b, byte(n))
	}
	return b
}

// Damaged returns b, which is not empty, with one or two changes that may make it wrong, or not.
func (s *Numbers) Damaged(b []byte) []byte {
	b = slices.Clone(b)
	for range 1 + s.Below(2) {
		at := s.Below(len(b))
		switch s.Below(7) {
		case 0:
			b[at] = byte(s.Below(256))
		case 1:
			b[at] ^= 1 << s.Below(8)
		case 2:
			b = slices.Insert(b, at, byte(s.Below(20)))
		case 3:
			// At least one byte is left for the next change.
			b = slices.Delete(b, at, at+min(1, len(b)-1))
		case 4:
			b[at] |= 128
			b = slices.Insert(b, at+1, 0)
		case 5:
			b = slices.Replace(b, at, at+1, Digits(s.Wide())...)
		case 6:
			b = b[:at+1]
		}
	}
	return b
}
