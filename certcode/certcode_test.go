package certcode

import (
	"bytes"
	"math"
	"slices"
	"testing"

	"regcert/api"
	"regcert/checker"
	"regcert/testkit"
)

// Locations are written as numbers: register n is 2 * n, and slot n is 2 * n + 1.

func p(v int, l api.Loc) api.Pair                           { return api.Pair{V: v, L: l} }
func set(l ...api.Pair) []api.Pair                          { return l }
func ret(a int) api.Term                                    { return api.Term{Kind: 3, A: a} }
func jump(to int) api.Term                                  { return api.Term{Kind: 1, To: to} }
func block(t api.Term, code ...api.Instr) api.Block         { return api.Block{Code: code, Term: t} }
func mblock(t api.Term, code ...api.Mach) api.MBlock        { return api.MBlock{Code: code, Term: t} }
func invariants(l ...[]api.Pair) [][]api.Pair               { return l }
func shown(b []byte) []byte                                 { return b[:min(len(b), 200)] }
func cert(s api.Func, t api.MFunc, w [][]api.Pair) api.Cert { return api.Cert{S: s, T: t, W: w} }

func source(args, regs int, l ...api.Block) api.Func {
	return api.Func{Args: args, Regs: regs, Blocks: l}
}

func allocated(args, regs, slots int, l ...api.MBlock) api.MFunc {
	return api.MFunc{Args: args, Regs: regs, Slots: slots, Blocks: l}
}

// encode encodes c and checks the bytes and the error.
func encode(t *testing.T, c api.Cert, want []byte, wantErr api.Errno) {
	t.Helper()
	b, e := Encode(c)
	if !bytes.Equal(b, want) || e != wantErr || e != api.OK && b != nil {
		t.Errorf("Encode(%+v) = %v, %d, want %v, %d", c, shown(b), e, shown(want), wantErr)
	}
}

// decodes decodes b and checks the certificate and the error.
func decodes(t *testing.T, b []byte, want api.Cert, wantErr api.Errno) {
	t.Helper()
	c, e := Decode(b)
	if !testkit.SameCert(c, want) || e != wantErr {
		t.Errorf("Decode(%v) = %+v, %d, want %+v, %d", shown(b), c, e, want, wantErr)
	}
	if e != api.OK && (c.S.Blocks != nil || c.T.Blocks != nil || c.W != nil) {
		t.Errorf("Decode(%v) has an error and an empty slice that is not nil", shown(b))
	}
}

func fails(t *testing.T, b []byte, want api.Errno) {
	t.Helper()
	decodes(t, b, api.Cert{}, want)
}

// inverse encodes and decodes c, whose encoding is b.
func inverse(t *testing.T, c api.Cert, b []byte) {
	t.Helper()
	encode(t, c, b, api.OK)
	decodes(t, b, c, api.OK)
}

// compare decodes b and compares the result with the model. What is decoded must be valid, and b its encoding.
func compare(t *testing.T, b []byte) api.Errno {
	t.Helper()
	want, e := model(b)
	decodes(t, b, want, e)
	if e == api.OK {
		if v := checker.Valid(want); v != api.OK {
			t.Errorf("%v is decoded as %+v, which has the error %d", shown(b), want, v)
		}
		encode(t, want, b, api.OK)
	}
	return e
}

// The contents of the sections in the example of the chapter.
var (
	s0 = []byte{0, 1, 1, 0, 3, 0}
	t0 = []byte{0, 1, 0, 1, 0, 3, 0}
	w0 = []byte{1, 0, 0}
)

// The example of the chapter.
func TestExample(t *testing.T) {
	c := cert(source(0, 1, block(ret(0))), allocated(0, 1, 0, mblock(ret(0))), invariants(set(p(0, 0))))
	inverse(t, c, []byte{82, 67, 1, 1, 6, 0, 1, 1, 0, 3, 0, 2, 7, 0, 1, 0, 1, 0, 3, 0, 3, 3, 1, 0, 0})
}

// spilled returns the certificate of examples 1 to 3 of DOC.md.
func spilled() api.Cert {
	code := []api.Mach{{Op: 18, Dst: 0, Src: 1}, {Op: 3}, {Op: 18, Dst: 3, Src: 0}, {Op: 18, Dst: 0, Src: 3}}
	return cert(
		source(1, 2, block(ret(1), api.Instr{Op: 3, D: 1, A: 0})),
		allocated(1, 1, 2, mblock(ret(0), code...)),
		invariants(set(p(0, 1), p(1, 3))),
	)
}

// P20.1, P20.2, P20.3: encodings by hand. That a certificate is not accepted does not matter.
func TestTable(t *testing.T) {
	rejected := spilled()
	rejected.T.Blocks = []api.MBlock{mblock(jump(0), api.Mach{Op: 17, A: 0})}
	for _, x := range []struct {
		c    api.Cert
		want []byte
	}{
		{spilled(), join([]byte{82, 67, 1}, []byte{1, 9, 1, 2, 1, 1, 3, 1, 0, 3, 1}, []byte{2, 19, 1, 1, 2, 1, 4, 18, 0, 1, 3, 0, 0, 18, 3, 0, 18, 0, 3, 3, 0}, []byte{3, 5, 2, 0, 1, 1, 3})},
		{rejected, join([]byte{82, 67, 1}, []byte{1, 9, 1, 2, 1, 1, 3, 1, 0, 3, 1}, []byte{2, 9, 1, 1, 2, 1, 1, 17, 0, 1, 0}, []byte{3, 5, 2, 0, 1, 1, 3})},
		// No registers, slots, instructions and pairs at all.
		{cert(source(0, 0, block(jump(0))), allocated(0, 0, 0, mblock(jump(0))), invariants(nil)), []byte{82, 67, 1, 1, 6, 0, 0, 1, 0, 1, 0, 2, 7, 0, 0, 0, 1, 0, 1, 0, 3, 1, 0}},
		// Two blocks, and more registers than machine registers and slots, or fewer.
		{cert(source(1, 9, block(jump(1)), block(ret(8))), allocated(1, 0, 1, mblock(jump(1)), mblock(jump(0))), invariants(nil, set(p(8, 1)))), []byte{82, 67, 1, 1, 9, 1, 9, 2, 0, 1, 1, 0, 3, 8, 2, 10, 1, 0, 1, 2, 0, 1, 1, 0, 1, 0, 3, 4, 0, 1, 8, 1}},
		{cert(source(1, 1, block(ret(0))), allocated(1, 200, 3, mblock(ret(199))), invariants(set(p(0, 0), p(0, 398)))), []byte{82, 67, 1, 1, 6, 1, 1, 1, 0, 3, 0, 2, 9, 1, 200, 1, 3, 1, 0, 3, 199, 1, 3, 6, 2, 0, 0, 0, 141, 3}},
		{cert(source(0, 1<<20, block(ret(1<<20-1))), allocated(0, 1<<20, 1<<20, mblock(ret(1<<20-1))), invariants(set(p(1<<20-1, 1<<21-1)))), join([]byte{82, 67, 1}, []byte{1, 10, 0, 128, 128, 64, 1, 0, 3, 255, 255, 63}, []byte{2, 13, 0, 128, 128, 64, 128, 128, 64, 1, 0, 3, 255, 255, 63}, []byte{3, 7, 1, 255, 255, 63, 255, 255, 127})},
	} {
		inverse(t, x.c, x.want)
		for k := range x.want {
			fails(t, x.want[:k], api.ErrShort)
		}
		fails(t, append(slices.Clone(x.want), 0), api.ErrLong)
	}
}

// P20.1: sections whose lengths have several bytes.
func TestLongSections(t *testing.T) {
	for _, n := range []int{60, 61, 62, 63, 64, 200, 9000} {
		b, m := block(ret(0)), mblock(ret(0))
		var pairs []api.Pair
		code := testkit.Digits(n)
		w := testkit.Digits(n)
		for k := range n {
			b.Code, m.Code = append(b.Code, api.Instr{Op: 17}), append(m.Code, api.Mach{Op: 17})
			pairs = append(pairs, p(k, 0))
			code = append(code, 17, 0)
			w = append(w, byte(min(k, 1)), 0)
		}
		regs := testkit.Digits(n)
		c := cert(source(0, n, b), allocated(0, 1, 0, m), invariants(pairs))
		inverse(t, c, packed(join([]byte{0}, regs, []byte{1}, code, []byte{3, 0}), join([]byte{0, 1, 0, 1}, code, []byte{3, 0}), w))
	}
}

// P20.2: the errors of the first bytes.
func TestHeaderErrors(t *testing.T) {
	rest := packed(s0, t0, w0)[3:]
	for _, x := range []struct {
		begin []byte
		want  api.Errno
	}{
		{[]byte{82, 67, 1}, api.ErrShort}, // of the first section
		{[]byte{82, 67}, api.ErrShort},
		{[]byte{82}, api.ErrShort},
		{[]byte{83}, api.ErrShort},
		{[]byte{0}, api.ErrShort},
		{nil, api.ErrShort},
		{[]byte{83, 67}, api.ErrMagic},
		{[]byte{82, 66}, api.ErrMagic},
		{[]byte{67, 82}, api.ErrMagic},
		{[]byte{82, 82}, api.ErrMagic},
		{[]byte{67, 67}, api.ErrMagic},
		{[]byte{114, 99}, api.ErrMagic},
		{[]byte{0, 0}, api.ErrMagic},
		{[]byte{83, 67, 1}, api.ErrMagic},
		{[]byte{82, 68, 1}, api.ErrMagic},
		{[]byte{82, 68, 2}, api.ErrMagic}, // rather than the ErrVersion
		{[]byte{82, 67, 0}, api.ErrVersion},
		{[]byte{82, 67, 2}, api.ErrVersion},
		{[]byte{82, 67, 3}, api.ErrVersion},
		{[]byte{82, 67, 129}, api.ErrVersion},
		{[]byte{82, 67, 129, 0}, api.ErrVersion}, // the version is a byte
		{[]byte{82, 67, 255}, api.ErrVersion},
		{[]byte{1, 82, 67, 1}, api.ErrMagic},
	} {
		fails(t, x.begin, x.want)
		// With what belongs behind the first three bytes, all that were found there are still wrong.
		if x.want != api.ErrShort {
			fails(t, join(x.begin, rest), x.want)
			fails(t, join(x.begin, make([]byte, 9)), x.want)
		}
	}
	for k, want := range []api.Errno{api.ErrMagic, api.ErrMagic, api.ErrVersion} {
		for v := range 256 {
			b := packed(s0, t0, w0)
			if b[k] != byte(v) {
				b[k] = byte(v)
				fails(t, b, want)
			}
		}
	}
}

// P20.2: the errors of the sections.
func TestSectionErrors(t *testing.T) {
	one, two, three := sectionOf(1, s0), sectionOf(2, t0), sectionOf(3, w0)
	wrong := sectionOf(1, []byte{2, 1}) // ErrReg
	for _, x := range []struct {
		rest []byte
		want api.Errno
	}{
		{join(one, two, three), api.OK},
		{nil, api.ErrShort},
		{one, api.ErrShort},
		{join(one, two), api.ErrShort},
		{wrong, api.ErrShort},
		{join(wrong, two), api.ErrShort},
		{join(wrong, two, three[:4]), api.ErrShort},
		{join(one, two, three, []byte{0}), api.ErrLong},
		{join(one, two, three, three), api.ErrLong},
		{join(one, two, three, sectionOf(4, nil)), api.ErrLong},
		{join(wrong, two, three, []byte{0}), api.ErrLong}, // rather than the ErrReg
		{join(one, two, sectionOf(3, nil), []byte{0}), api.ErrLong},
		{two, api.ErrSection},
		{[]byte{0}, api.ErrSection},
		{[]byte{2, 128, 0}, api.ErrSection}, // rather than the ErrVarint
		{join(two, one, three), api.ErrSection},
		{join(one, three, two), api.ErrSection},
		{join(one, one, two, three), api.ErrSection},
		{join(one, three), api.ErrSection},
		{join(wrong, three), api.ErrSection},
		{join(one, two, two, three), api.ErrSection},
		{join(wrong, two, sectionOf(4, w0)), api.ErrSection},
		{join(wrong, two, sectionOf(0, w0)), api.ErrSection},
		{join(sectionOf(1, t0), sectionOf(2, s0), sectionOf(129, w0)), api.ErrSection},
		{join([]byte{1, 134, 0}, s0, two, three), api.ErrVarint},
		{join(one, []byte{2, 135, 0}, t0, three), api.ErrVarint},
		{join(wrong, two, []byte{3, 131, 0}, w0), api.ErrVarint},
		{join(wrong, two, []byte{3}), api.ErrShort},
		{join(wrong, two, []byte{3, 128}), api.ErrShort},
		{join([]byte{1}, testkit.Digits(1<<32+6), s0, two, three), api.ErrShort},
		{join([]byte{1}, testkit.Digits[uint64](math.MaxUint64), s0, two, three), api.ErrShort},
		{join([]byte{1, 7}, s0, two, three), api.ErrSection}, // the first byte of the next section is missing there
		{join([]byte{1, 5}, s0, two, three), api.ErrSection},
		{join(one, two, []byte{3, 4}, w0), api.ErrShort},
		{join(one, two, []byte{3, 2}, w0), api.ErrLong},
	} {
		b := join([]byte{82, 67, 1}, x.rest)
		if e := compare(t, b); e != x.want {
			t.Errorf("the error of %v is %d, want %d", b, e, x.want)
		}
	}
}

// P20.2: the errors of the contents of sections, and which of several is the first.
func TestContentErrors(t *testing.T) {
	long := func(b []byte) []byte { return append(slices.Clone(b), 0) }
	s1 := []byte{1, 1, 1, 0, 3, 0}
	s2 := []byte{0, 3, 2, 0, 3, 2, 0, 1, 0} // two blocks and three registers
	t1 := []byte{1, 1, 1, 1, 0, 3, 0}
	t2 := []byte{0, 1, 2, 2, 0, 3, 0, 0, 1, 0} // two blocks, a machine register and two slots
	for _, x := range []struct {
		s, t, w []byte
		want    api.Errno
	}{
		{s0, t0, w0, api.OK},
		{s1, t1, w0, api.OK},
		{s2, t2, []byte{0, 0}, api.OK},
		// Section 1.
		{nil, t0, w0, api.ErrShort},
		{s0[:5], t0, w0, api.ErrShort}, // what follows belongs to other sections
		{[]byte{128, 0, 1, 1, 0, 3, 0}, t0, w0, api.ErrVarint},
		{[]byte{129, 128, 64}, t0, w0, api.ErrLimit},
		{[]byte{2, 1}, t0, w0, api.ErrReg},
		{[]byte{0, 1, 0}, t0, w0, api.ErrCount},
		{[]byte{0, 1, 1, 1, 18, 0, 0, 3, 0}, t0, w0, api.ErrOpcode},
		{[]byte{0, 1, 1, 0, 4, 0}, t0, w0, api.ErrTerm},
		{[]byte{0, 1, 1, 0, 1, 1}, t0, w0, api.ErrTarget},
		{long(s0), t0, w0, api.ErrLong},
		{join(s0, s0), t0, w0, api.ErrLong},
		{[]byte{0, 1, 1, 0, 3, 1, 0}, t0, w0, api.ErrReg}, // rather than the ErrLong
		// Section 2.
		{s0, nil, w0, api.ErrShort},
		{s0, t0[:6], w0, api.ErrShort},
		{s0, []byte{0, 1, 0, 129, 0, 0, 3, 0}, w0, api.ErrVarint},
		{s0, []byte{0, 1, 129, 128, 64}, w0, api.ErrLimit},
		{s0, []byte{1, 1, 0, 1, 0, 3, 0}, w0, api.ErrLoc},
		{s0, []byte{0, 1, 0, 0}, w0, api.ErrCount},
		{s0, []byte{0, 1, 0, 1, 1, 2, 0, 0, 3, 0}, w0, api.ErrOpcode},
		{s0, []byte{0, 1, 0, 1, 0, 3, 1}, w0, api.ErrReg},
		{s0, []byte{0, 1, 0, 1, 0, 1, 1}, w0, api.ErrTarget},
		{s0, join([]byte{0, 1, 0, 1, 65}, bytes.Repeat([]byte{18, 0, 0}, 65), []byte{3, 0}), w0, api.ErrMoves},
		{s0, join([]byte{0, 1, 0, 1, 64}, bytes.Repeat([]byte{18, 0, 0}, 64), []byte{3, 0}), w0, api.OK},
		{s0, long(t0), w0, api.ErrLong},
		{s0, []byte{0, 1, 0, 1, 0, 3, 1, 0}, w0, api.ErrReg}, // rather than the ErrLong
		// Section 1 rather than section 2.
		{[]byte{2, 1}, []byte{1, 1, 0}, nil, api.ErrReg},
		{long(s0), []byte{1, 1, 0}, nil, api.ErrLong},
		{long(s0), nil, nil, api.ErrLong},
		{[]byte{0, 1, 1, 0, 4, 0}, long(t0), long(w0), api.ErrTerm},
		{[]byte{0, 1, 1, 0, 4, 0}, t1, w0, api.ErrTerm}, // rather than the ErrCount
		// The numbers of blocks and Args.
		{s0, t1, w0, api.ErrCount},
		{s1, t0, w0, api.ErrCount},
		{s0, t2, w0, api.ErrCount},
		{s2, t0, w0, api.ErrCount},
		{s2, t0, []byte{0, 0}, api.ErrCount},
		{s0, t2, []byte{0, 0}, api.ErrCount},
		{s2, t1, w0, api.ErrCount},
		{s0, t1, nil, api.ErrCount},             // rather than the ErrShort
		{s0, t1, []byte{1, 9, 9}, api.ErrCount}, // rather than the ErrReg
		{s0, t1, long(w0), api.ErrCount},        // rather than the ErrLong
		{s2, t0, nil, api.ErrCount},
		{s0, []byte{1, 1, 1, 1, 0, 3, 1}, w0, api.ErrReg}, // rather than the ErrCount
		{s0, long(t1), w0, api.ErrLong},                   // rather than the ErrCount
		{s0, []byte{1, 1, 0}, w0, api.ErrLoc},
		{long(s0), t1, w0, api.ErrLong},
		// Section 3.
		{s0, t0, nil, api.ErrShort},
		{s0, t0, []byte{0}, api.OK},
		{s0, t0, []byte{1, 0}, api.ErrShort},
		{s0, t0, []byte{128, 0}, api.ErrVarint},
		{s0, t0, []byte{129, 128, 64}, api.ErrLimit},
		{s0, t0, []byte{1, 1, 0}, api.ErrReg},
		{s0, t0, []byte{1, 0, 1}, api.ErrLoc},
		{s0, t0, []byte{1, 0, 2}, api.ErrLoc},
		{s0, t0, []byte{2, 0, 0, 0, 0}, api.ErrLoc},
		{s0, t0, long(w0), api.ErrLong},
		{s0, t0, []byte{0, 0}, api.ErrLong}, // an invariant too many
		{s2, t2, []byte{0}, api.ErrShort},   // one too few
		{s2, t2, []byte{0, 0, 0}, api.ErrLong},
		{s0, t0, []byte{1, 1, 0, 0}, api.ErrReg}, // rather than the ErrLong
		{[]byte{0, 1, 1, 0, 4, 0}, t0, nil, api.ErrTerm},
		{s0, []byte{0, 1, 0, 1, 0, 3, 1}, nil, api.ErrReg}, // rather than the ErrShort
		{s0, long(t0), nil, api.ErrLong},
		// Registers are those of the source function, machine registers and slots those of the allocated one.
		{s2, t2, []byte{3, 2, 0, 0, 0, 0, 1, 0}, api.OK},
		{s2, t2, []byte{0, 3, 2, 0, 0, 0, 0, 1}, api.OK},
		{s2, t2, []byte{1, 3, 0, 0}, api.ErrReg},
		{s2, t2, []byte{1, 2, 2, 0}, api.ErrLoc},
		{s2, t2, []byte{1, 2, 3, 0}, api.OK},
		{s2, t2, []byte{1, 2, 5, 0}, api.ErrLoc},
	} {
		b := packed(x.s, x.t, x.w)
		if e := compare(t, b); e != x.want {
			t.Errorf("the error of %v is %d, want %d", b, e, x.want)
		}
	}
}

// P20.1: what is not valid has no encoding, also where the encoding would not show it.
func TestInvalid(t *testing.T) {
	for _, x := range []struct {
		change func(c *api.Cert)
		want   api.Errno
	}{
		{func(c *api.Cert) {}, api.OK},
		{func(c *api.Cert) { *c = api.Cert{} }, api.ErrCount},
		{func(c *api.Cert) { c.S.Args = -1 }, api.ErrReg},
		{func(c *api.Cert) { c.S.Regs = 1<<20 + 1 }, api.ErrLimit},
		{func(c *api.Cert) { c.T.Slots = 1<<20 + 1 }, api.ErrLimit},
		{func(c *api.Cert) { c.S.Args = 3 }, api.ErrReg},
		{func(c *api.Cert) { c.T.Args = 3 }, api.ErrLoc},
		{func(c *api.Cert) { c.S.Args = 0 }, api.ErrCount},
		{func(c *api.Cert) { c.T.Args = 2 }, api.ErrCount},
		{func(c *api.Cert) { c.S.Blocks = nil }, api.ErrCount},
		{func(c *api.Cert) { c.T.Blocks = nil }, api.ErrCount},
		{func(c *api.Cert) { c.S.Blocks = append(c.S.Blocks, c.S.Blocks[0]) }, api.ErrCount},
		{func(c *api.Cert) { c.T.Blocks = append(c.T.Blocks, c.T.Blocks[0]) }, api.ErrCount},
		{func(c *api.Cert) { c.S.Blocks[0].Code[0].Op = 18 }, api.ErrOpcode},
		{func(c *api.Cert) { c.S.Blocks[0].Code[0].Op = 3 + 256 }, api.ErrOpcode},
		{func(c *api.Cert) { c.S.Blocks[0].Code[0].D = 2 }, api.ErrReg},
		{func(c *api.Cert) { c.S.Blocks[0].Code[0].B = 1 }, api.ErrField},
		{func(c *api.Cert) { c.S.Blocks[0].Code[0].Imm = 1 }, api.ErrField},
		{func(c *api.Cert) { c.S.Blocks[0].Term.To = 1 }, api.ErrField},
		{func(c *api.Cert) { c.S.Blocks[0].Term.Kind = 0 }, api.ErrTerm},
		{func(c *api.Cert) { c.S.Blocks[0].Term = jump(1) }, api.ErrTarget},
		{func(c *api.Cert) { c.T.Blocks[0].Code[0].Op = 2 }, api.ErrOpcode},
		{func(c *api.Cert) { c.T.Blocks[0].Code[0].A = 1 }, api.ErrField},
		{func(c *api.Cert) { c.T.Blocks[0].Code[0].Src = 5 }, api.ErrLoc},
		{func(c *api.Cert) { c.T.Blocks[0].Code[1].Src = 1 }, api.ErrField},
		{func(c *api.Cert) { c.T.Blocks[0].Code[1].A = 1 }, api.ErrReg},
		{func(c *api.Cert) { c.T.Blocks[0].Code = slices.Repeat(c.T.Blocks[0].Code[:1], 65) }, api.ErrMoves},
		{func(c *api.Cert) { c.T.Blocks[0].Term.Else = 1 }, api.ErrField},
		{func(c *api.Cert) { c.T.Blocks[0].Term = jump(-1) }, api.ErrTarget},
		{func(c *api.Cert) { c.W = nil }, api.ErrCount},
		{func(c *api.Cert) { c.W = append(c.W, nil) }, api.ErrCount},
		{func(c *api.Cert) { c.W[0][0].V = 2 }, api.ErrReg},
		{func(c *api.Cert) { c.W[0][0].V = -1 }, api.ErrReg},
		{func(c *api.Cert) { c.W[0][0].L = 2 }, api.ErrLoc},
		{func(c *api.Cert) { c.W[0][1].L = -1 }, api.ErrLoc},
		{func(c *api.Cert) { c.W[0][0] = p(1, 3) }, api.ErrOrder},
		{func(c *api.Cert) { c.W[0][0] = p(1, 3); c.W[0][1] = p(1, 1) }, api.ErrOrder},
		// Which of several is the first.
		{func(c *api.Cert) { c.W[0][0].V, c.T.Args = 2, 2 }, api.ErrCount},
		{func(c *api.Cert) { c.W[0][0].V, c.T.Blocks[0].Term.Else = 2, 1 }, api.ErrField},
		{func(c *api.Cert) { c.S.Blocks[0].Term.Kind, c.T.Blocks[0].Term.Else = 0, 1 }, api.ErrTerm},
	} {
		c := spilled()
		x.change(&c)
		if e := checker.Valid(c); e != x.want {
			t.Errorf("%+v has the error %d, want %d", c, e, x.want)
		}
		if x.want == api.OK {
			inverse(t, c, encoding(c))
		} else {
			encode(t, c, nil, x.want)
		}
	}
}
