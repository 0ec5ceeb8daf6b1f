package certcode

import (
	"bytes"
	"reflect"
	"runtime"
	"slices"
	"testing"

	"regcert/api"
	"regcert/checker"
	"regcert/testkit"
)

// expectSeen checks that each of the errors has been seen often enough.
func expectSeen(t *testing.T, seen map[api.Errno]int, least int, errors ...api.Errno) {
	t.Helper()
	for _, e := range errors {
		if seen[e] < least {
			t.Errorf("the error %d is seen only %d times", e, seen[e])
		}
	}
}

// P20.2, P20.3: all short inputs over some bytes, alone and as the contents of each section.
func TestShortInputs(t *testing.T) {
	inputs := [][]byte{nil}
	for from := 0; len(inputs[from]) < 5; from++ {
		for _, last := range []byte{0, 1, 2, 3, 67, 82, 128} {
			inputs = append(inputs, append(slices.Clone(inputs[from]), last))
		}
	}
	seen := map[api.Errno]int{}
	for _, b := range inputs {
		seen[compare(t, b)]++
		seen[compare(t, join([]byte{82, 67, 1}, b))]++
		seen[compare(t, join(packed(s0, t0, w0)[:20], b))]++
		seen[compare(t, packed(join([]byte{0, 1}, b), t0, w0))]++
		seen[compare(t, packed(s0, join([]byte{0, 1}, b), w0))]++
		seen[compare(t, packed(s0, t0, b))]++
	}
	expectSeen(t, seen, 5, 0, 1, 2, 3, 4, 5, 7, 9, 10, 11, 14, 16)
}

// P20.1, P20.2, P20.3: random certificates, and their encodings cut off anywhere, damaged, and with damaged contents of one or two sections.
func TestRandom(t *testing.T) {
	s := testkit.Numbers(20)
	seen := map[api.Errno]int{}
	for range 3000 {
		c := s.Cert()
		b := encoding(c)
		inverse(t, c, b)
		for k := range b {
			fails(t, b[:k], api.ErrShort)
		}
		fails(t, append(slices.Clone(b), byte(s.Below(256))), api.ErrLong)
		for range 10 {
			compare(t, s.Damaged(b))
			l := contentsOf(c)
			for range 1 + s.Below(2) {
				k := s.Below(3)
				l[k] = s.Damaged(l[k])
			}
			seen[compare(t, packed(l[0], l[1], l[2]))]++
		}
	}
	expectSeen(t, seen, 100, 0, 1, 2, 3, 6, 8, 9, 10, 11, 14, 16)
}

// P20.2: sections of different certificates, which are valid alone.
func TestMixed(t *testing.T) {
	s := testkit.Numbers(2020)
	seen := map[api.Errno]int{}
	for range 20000 {
		a, b := s.Cert(), s.Cert()
		l, m := contentsOf(a), contentsOf(b)
		k := s.Below(3)
		l[k] = m[k]
		seen[compare(t, packed(l[0], l[1], l[2]))]++
	}
	expectSeen(t, seen, 100, 0, 1, 2, 9, 10, 14)
}

// numbers returns pointers to all numbers of c except immediates, each as its kind of integer.
func numbers(c *api.Cert) (ints []*int, locs []*api.Loc) {
	ints = []*int{&c.S.Args, &c.S.Regs, &c.T.Args, &c.T.Regs, &c.T.Slots}
	term := func(t *api.Term) { ints = append(ints, &t.Kind, &t.A, &t.To, &t.Else) }
	for k := range c.S.Blocks {
		b := &c.S.Blocks[k]
		for n := range b.Code {
			i := &b.Code[n]
			ints = append(ints, &i.Op, &i.D, &i.A, &i.B)
		}
		term(&b.Term)
	}
	for k := range c.T.Blocks {
		b := &c.T.Blocks[k]
		for n := range b.Code {
			i := &b.Code[n]
			ints = append(ints, &i.Op, &i.D, &i.A, &i.B)
			locs = append(locs, &i.Dst, &i.Src)
		}
		term(&b.Term)
	}
	for _, l := range c.W {
		for k := range l {
			ints, locs = append(ints, &l[k].V), append(locs, &l[k].L)
		}
	}
	return ints, locs
}

// spoiled returns c with another number somewhere, or without its last block or invariant.
func spoiled(s *testkit.Numbers, c api.Cert) api.Cert {
	by := []int{1, -1, 2, -2, 1 << 32, -1 << 32, 1 << 20, -1 << 63}[s.Below(8)]
	ints, locs := numbers(&c)
	switch k := s.Below(len(ints) + len(locs) + 4); {
	case k < len(ints):
		*ints[k] += by
	case k < len(ints)+len(locs):
		*locs[k-len(ints)] += api.Loc(by)
	case k == len(ints)+len(locs):
		c.S.Blocks = c.S.Blocks[1:]
	case k == len(ints)+len(locs)+1:
		c.T.Blocks = c.T.Blocks[1:]
	case k == len(ints)+len(locs)+2:
		c.W = c.W[1:]
	default:
		c.W = append(c.W, nil)
	}
	return c
}

// P20.1: certificates with another number somewhere, which are valid or not.
func TestSpoiled(t *testing.T) {
	s := testkit.Numbers(201)
	seen := map[api.Errno]int{}
	for range 30000 {
		c := spoiled(&s, s.Cert())
		e := checker.Valid(c)
		seen[e]++
		if e == api.OK {
			inverse(t, c, encoding(c))
		} else {
			encode(t, c, nil, e)
		}
	}
	expectSeen(t, seen, 100, 0, 6, 8, 9, 10, 11, 12, 13, 14, 16)
}

// P20.3: valid certificates that differ in one place have different encodings.
func TestDifferent(t *testing.T) {
	s := testkit.Numbers(203)
	valid := 0
	for range 20000 {
		a := s.Cert()
		before := encoding(a)
		c := spoiled(&s, a)
		if after, e := Encode(c); e == api.OK {
			valid++
			if bytes.Equal(after, before) {
				t.Fatalf("%+v has the encoding %v, which is that of another one", c, after)
			}
		}
	}
	if valid < 1000 {
		t.Errorf("only %d of the certificates are valid", valid)
	}
}

// chain returns the certificate of n blocks that jump to the next one, of which the last one returns register 0.
func chain(n int) api.Cert {
	c := cert(source(0, 1), allocated(0, 1, 0), nil)
	for k := range n {
		next := jump(k + 1)
		if k == n-1 {
			next = ret(0)
		}
		c.S.Blocks = append(c.S.Blocks, block(next))
		c.T.Blocks = append(c.T.Blocks, mblock(next))
		c.W = append(c.W, set(p(0, 0)))
	}
	return c
}

// P20.1, P20.2: the greatest numbers of blocks, pairs and instructions, and one more.
func TestLimits(t *testing.T) {
	const limit = 1 << 20
	code, mach := slices.Repeat([]api.Instr{{Op: 17}}, limit+1), slices.Repeat([]api.Mach{{Op: 17}}, limit+1)
	pairs := make([]api.Pair, limit+1)
	for k := range pairs {
		pairs[k] = p(0, api.Loc(k))
	}
	for _, x := range []struct {
		name   string
		change func(c *api.Cert, n int)
	}{
		{"instructions of the source function", func(c *api.Cert, n int) { c.S.Blocks[1].Code = code[:n] }},
		{"instructions of the allocated function", func(c *api.Cert, n int) { c.T.Blocks[0].Code = mach[:n] }},
		{"pairs", func(c *api.Cert, n int) { c.T.Regs, c.T.Slots, c.W[0], c.W[1] = limit, limit, pairs[:n-1], pairs[:1] }},
		{"registers", func(c *api.Cert, n int) { c.S.Regs = n }},
		{"machine registers", func(c *api.Cert, n int) { c.T.Regs = n }},
		{"slots", func(c *api.Cert, n int) { c.T.Slots = n }},
		{"arguments", func(c *api.Cert, n int) { c.S.Args, c.T.Args, c.S.Regs, c.T.Slots = n, n, n, n }},
		{"blocks", func(c *api.Cert, n int) { *c = chain(n) }},
	} {
		c := chain(2)
		x.change(&c, limit)
		b, e := Encode(c)
		if d, err := Decode(b); e != api.OK || err != api.OK || !testkit.SameCert(c, d) {
			t.Errorf("%s up to the limit: errors %d and %d, or another certificate", x.name, e, err)
		}
		c = chain(2)
		x.change(&c, limit+1)
		if b, e := Encode(c); b != nil || e != api.ErrLimit {
			t.Errorf("one more of the %s: error %d", x.name, e)
		}
		if d, err := Decode(encoding(c)); err != api.ErrLimit || !testkit.SameCert(d, api.Cert{}) {
			t.Errorf("the encoding with one more of the %s: error %d", x.name, err)
		}
	}
}

// P4, example 8 of DOC.md: a short input that announces many elements is rejected without allocating them.
func TestAllocation(t *testing.T) {
	many, zeros := testkit.Digits(1<<20), make([]byte, 100)
	for _, b := range [][]byte{
		packed(join([]byte{0, 1}, many, zeros), t0, w0),
		packed(join([]byte{0, 1, 1}, many, zeros), t0, w0),
		packed(s0, join([]byte{0, 1, 0}, many, zeros), w0),
		packed(s0, join([]byte{0, 1, 0, 1}, many, zeros), w0),
		packed(s0, t0, join(many, zeros)),
	} {
		fails(t, b, api.ErrShort)
		var before, after runtime.MemStats
		runtime.ReadMemStats(&before)
		for range 100 {
			Decode(b)
		}
		runtime.ReadMemStats(&after)
		if size := (after.TotalAlloc - before.TotalAlloc) / 100; size > 10000 {
			t.Errorf("decoding %v allocates %d bytes", b, size)
		}
	}
}

// P20.4: a certificate is not modified, nor the unused capacity in it, and its encoding does not change with it.
func TestEncodeKeeps(t *testing.T) {
	s := testkit.Numbers(204)
	for n := range 2000 {
		c := s.Cert()
		if n%4 == 0 {
			c = spoiled(&s, c)
		}
		c = testkit.RoomyCert(c)
		before := testkit.WholeCert(c)
		b, _ := Encode(c)
		other, _ := Encode(c)
		if !reflect.DeepEqual(testkit.WholeCert(c), before) {
			t.Fatalf("%+v has been changed to %+v", before, c)
		}
		want := slices.Clone(b)
		spoilEach(&c, before, func() {})
		if !bytes.Equal(b, want) {
			t.Fatal("the encoding shares memory with the certificate")
		}
		testkit.Spoil(b)
		if !bytes.Equal(other, want) {
			t.Fatal("two encodings share memory")
		}
	}
}

// spoilEach overwrites the slices in c, one after the other, and puts those of another certificate in their places. Each time, it calls then.
func spoilEach(c *api.Cert, by api.Cert, then func()) {
	for k := range c.S.Blocks {
		exchange(&c.S.Blocks[k].Code, by.S.Blocks[k].Code, api.Instr{Op: 99})
		then()
	}
	for k := range c.T.Blocks {
		exchange(&c.T.Blocks[k].Code, by.T.Blocks[k].Code, api.Mach{Op: 99})
		then()
	}
	for k := range c.W {
		exchange(&c.W[k], by.W[k], p(99, 99))
		then()
	}
	exchange(&c.S.Blocks, by.S.Blocks, block(jump(99)))
	then()
	exchange(&c.T.Blocks, by.T.Blocks, mblock(jump(99)))
	then()
	exchange(&c.W, by.W, set(p(99, 99)))
	then()
}

// exchange overwrites all elements of l and of its unused capacity by x, and puts another slice in its place.
func exchange[V any](l *[]V, by []V, x V) {
	old := (*l)[:cap(*l)]
	for k := range old {
		old[k] = x
	}
	*l = by
}

// P20.4: bytes are not modified, nor their unused capacity.
func TestDecodeKeeps(t *testing.T) {
	s := testkit.Numbers(402)
	for range 2000 {
		b := encoding(s.Cert())
		if s.Below(2) == 0 {
			b = s.Damaged(b)
		}
		whole := append(b, 7, 8)
		before := slices.Clone(whole)
		Decode(whole[:len(b)])
		if !bytes.Equal(whole, before) {
			t.Fatalf("%v has been changed to %v", before, whole)
		}
	}
}

// P20.4: a certificate does not change with the bytes, and no two slices in it share memory.
func TestDecodeShares(t *testing.T) {
	s := testkit.Numbers(420)
	for range 1000 {
		want := s.Cert()
		b := encoding(want)
		c, _ := Decode(b)
		other, _ := Decode(b)
		testkit.Spoil(b)
		if !testkit.SameCert(c, want) {
			t.Fatal("the certificate shares memory with its encoding")
		}
		spoilEach(&c, want, func() {
			if !testkit.SameCert(c, want) {
				t.Fatal("two slices share memory")
			}
		})
		if !testkit.SameCert(other, want) {
			t.Fatal("two certificates share memory")
		}
	}
}
