package decodecost

import (
	"bytes"
	"runtime"
	"slices"
	"testing"

	"regcert/api"
	"regcert/certcode"
	"regcert/section"
	"regcert/testkit"
)

// compare checks the cost of decoding b against the model, and against what is decoded.
func compare(t *testing.T, b []byte) Cost {
	t.Helper()
	want, ok := model(b)
	costs(t, b, want)
	c, e := certcode.Decode(b)
	if ok != (e == api.OK) {
		t.Fatalf("the error of %v is %d, but the model says %t", shown(b), e, ok)
	}
	if ok {
		costs(t, b, whole(c, want.Bytes))
	}
	return want
}

// whole is the cost of decoding c completely.
func whole(c api.Cert, size int) Cost {
	cost := of(len(c.S.Blocks)+len(c.T.Blocks), 0, 0, size)
	for _, b := range c.S.Blocks {
		cost.Instrs += len(b.Code)
	}
	for _, b := range c.T.Blocks {
		cost.Instrs += len(b.Code)
	}
	for _, l := range c.W {
		cost.Pairs += len(l)
	}
	return cost
}

// encoding returns the encoding of c, which is valid.
func encoding(t *testing.T, c api.Cert) []byte {
	t.Helper()
	b, e := certcode.Encode(c)
	if e != api.OK {
		t.Fatalf("%+v has the error %d", c, e)
	}
	return b
}

// contentsOf returns the contents of the sections in the encoding b.
func contentsOf(t *testing.T, b []byte) [][]byte {
	t.Helper()
	l, e := section.Split(b[3:], 1, 2, 3)
	if e != api.OK {
		t.Fatalf("%v has the error %d", shown(b), e)
	}
	return l
}

// P21.1, P21.3, P21.4: all short inputs over some bytes, alone and as parts of an encoding.
func TestShortInputs(t *testing.T) {
	inputs := [][]byte{nil}
	for from := 0; len(inputs[from]) < 5; from++ {
		for _, last := range []byte{0, 1, 2, 3, 17, 18, 129} {
			inputs = append(inputs, append(slices.Clone(inputs[from]), last))
		}
	}
	for _, b := range inputs {
		compare(t, b)
		compare(t, join([]byte{82, 67, 1}, b))
		compare(t, join(packed(s0, t0, w0)[:20], b))
		compare(t, packed(join([]byte{0, 1}, b), t0, w0))
		compare(t, packed(join([]byte{0, 1, 2, 1}, b), t0, w0))
		compare(t, packed(s0, join([]byte{0, 1}, b), w0))
		compare(t, packed(s0, join([]byte{0, 1, 1, 2}, b), w0))
		compare(t, packed(s0, t0, b))
		compare(t, packed([]byte{0, 3, 2, 0, 3, 2, 0, 1, 0}, []byte{0, 1, 2, 2, 0, 3, 0, 0, 1, 0}, join([]byte{2}, b)))
	}
}

// P21.1, P21.3, P21.4: encodings of random certificates, cut off anywhere, damaged, and with damaged or other sections.
func TestRandom(t *testing.T) {
	s := testkit.Numbers(21)
	seen := map[Cost]bool{}
	for range 3000 {
		b, other := encoding(t, s.Cert()), encoding(t, s.Cert())
		compare(t, b)
		for k := range b {
			compare(t, b[:k])
		}
		compare(t, append(slices.Clone(b), byte(s.Below(256))))
		l, m := contentsOf(t, b), contentsOf(t, other)
		compare(t, packed(l[0], l[1], m[2]))
		compare(t, packed(l[0], m[1], l[2]))
		compare(t, packed(m[0], l[1], l[2]))
		for range 10 {
			compare(t, s.Damaged(b))
			d := slices.Clone(l)
			for range 1 + s.Below(2) {
				k := s.Below(3)
				d[k] = s.Damaged(d[k])
			}
			seen[compare(t, packed(d[0], d[1], d[2]))] = true
		}
	}
	if len(seen) < 1000 {
		t.Errorf("only %d costs are seen", len(seen))
	}
}

// many returns the encoding of n, and n times b.
func many(n int, b ...byte) []byte {
	return join(testkit.Digits(n), bytes.Repeat(b, n))
}

// P21.1, P21.3: the greatest numbers of elements, and greater ones, of which a sum counts and a number itself does not.
func TestLimits(t *testing.T) {
	const limit = 1 << 20
	end := []byte{3, 0}
	slots := bytes.Repeat([]byte{0, 1}, limit)
	t1 := join([]byte{0, 1}, testkit.Digits(limit), []byte{1, 0, 3, 0})
	s3, t3 := join([]byte{0, 1}, many(3, 0, 3, 0)), join([]byte{0}, testkit.Digits(limit, limit), many(3, 0, 3, 0))
	all := make([]byte, 2*limit) // registers and slots
	for _, x := range []struct {
		name                  string
		s, t, w               []byte
		blocks, instrs, pairs int
	}{
		{"blocks", join([]byte{0, 1}, many(limit, 0, 3, 0)), t0, w0, limit + 1, 0, 0},
		{"blocks of both functions", join([]byte{0, 1}, many(limit, 0, 3, 0)), join([]byte{0, 1, 0}, many(limit, 0, 3, 0)), make([]byte, limit), 2 * limit, 0, 0},
		{"one more block", join([]byte{0, 1}, many(limit+1, 0, 3, 0)), t0, w0, 0, 0, 0},
		{"one more allocated block", s0, join([]byte{0, 1, 0}, many(limit+1, 0, 3, 0)), w0, 1, 0, 0},
		{"instructions", join([]byte{0, 1, 1}, many(limit, 17, 0), end), join([]byte{0, 1, 0, 1}, many(limit, 17, 0), end), w0, 2, 2 * limit, 1},
		{"one more instruction", join([]byte{0, 1, 1}, many(limit+1, 17, 0), end), t0, w0, 1, 0, 0},
		{"one more instruction in another block", join([]byte{0, 1, 2}, many(limit, 17, 0), end, []byte{1, 17, 0}, end), t0, w0, 2, limit + 1, 0},
		{"another block without instructions", join([]byte{0, 1, 2}, many(limit, 17, 0), end, []byte{0}, end), t0, w0, 3, limit, 0},
		{"many more instructions", join([]byte{0, 1, 2}, many(limit, 17, 0), end, many(limit, 17, 0), end), t0, w0, 2, 2 * limit, 0},
		{"one more allocated instruction", s0, join([]byte{0, 1, 0, 1}, many(limit+1, 17, 0), end), w0, 2, 0, 0},
		{"one more allocated instruction in another block", s0, join([]byte{0, 1, 0, 2, 1, 17, 0}, end, many(limit, 17, 0), end), w0, 3, limit + 1, 0},
		{"pairs", s0, join([]byte{0}, testkit.Digits(limit, limit), []byte{1, 0, 3, 0}), join(testkit.Digits(limit), all), 2, 0, limit},
		{"one more pair", s0, join([]byte{0}, testkit.Digits(limit, limit), []byte{1, 0, 3, 0}), join(testkit.Digits(limit+1), all, []byte{0, 0}), 2, 0, 0},
		{"pairs of several invariants", s3, t3, join(testkit.Digits(limit-2), all[:2*limit-4], []byte{1, 0, 0, 1, 0, 0}), 6, 0, limit},
		{"one more pair in another invariant", s3, t3, join(testkit.Digits(limit), all, []byte{1, 0, 0, 1, 0, 0}), 6, 0, limit + 1},
		{"one more pair in the last invariant", s3, t3, join(testkit.Digits(limit-1), all[:2*limit-2], []byte{1, 0, 0, 1, 0, 0}), 6, 0, limit + 1},
		{"many more pairs", s3, t3, join(testkit.Digits(limit), all, testkit.Digits(limit), all, []byte{1, 0, 0}), 6, 0, 2 * limit},
		{"slots only", s0, t1, join(testkit.Digits(limit), slots), 2, 0, limit},
	} {
		t.Run(x.name, func(t *testing.T) {
			b := packed(x.s, x.t, x.w)
			costs(t, b, of(x.blocks, x.instrs, x.pairs, len(x.s)+len(x.t)+len(x.w)))
			compare(t, b)
		})
	}
	last := join([]byte{1, 0}, testkit.Digits(2*limit-1)) // the last slot
	costs(t, packed(s3, t3, join(last, last, last)), of(6, 0, 3, len(s3)+len(t3)+3*len(last)))
	regs := testkit.Digits(limit + 1)
	costs(t, packed(s0, join([]byte{0}, regs, regs, []byte{1, 0, 3, 0}), w0), of(1, 0, 0, 20))
}

// allocated returns the number of bytes that f allocates.
func allocated(f func()) int {
	var before, after runtime.MemStats
	runtime.ReadMemStats(&before)
	f()
	runtime.ReadMemStats(&after)
	return int(after.TotalAlloc - before.TotalAlloc)
}

// P4, P21.3: what decoding allocates is bounded by the cost, and the cost itself is found without allocating elements.
func TestAllocation(t *testing.T) {
	const most = 100 // bytes of an element
	n := 100000
	for _, b := range [][]byte{
		packed(join([]byte{0, 1}, many(n, 0, 3, 0)), t0, w0),
		packed(join([]byte{0, 1}, testkit.Digits(n), make([]byte, 3*n)), t0, w0),
		packed(join([]byte{0, 1}, testkit.Digits(n), make([]byte, 3*n-1)), t0, w0),
		packed(join([]byte{0, 1, 1}, testkit.Digits(n), make([]byte, 2*n)), t0, w0),
		packed(join([]byte{0, 1, 1}, testkit.Digits(n), make([]byte, 2*n-1)), t0, w0),
		packed(s0, join([]byte{0, 1, 0}, testkit.Digits(n), make([]byte, 3*n)), w0),
		packed(s0, join([]byte{0, 1, 0, 1}, testkit.Digits(n), make([]byte, 2*n)), w0),
		packed(s0, t0, join(testkit.Digits(n), make([]byte, 2*n))),
		packed(s0, t0, join(testkit.Digits(n), make([]byte, 2*n-1))),
	} {
		var c Cost
		if size := allocated(func() { c = Of(b) }); size > 10*len(b)+10000 {
			t.Errorf("Of allocates %d bytes for the %d of %v", size, len(b), shown(b))
		}
		if size := allocated(func() { certcode.Decode(b) }); size > most*Total(c)+10*len(b)+10000 {
			t.Errorf("decoding of %v, with the cost %+v, allocates %d bytes", shown(b), c, size)
		}
	}
}
