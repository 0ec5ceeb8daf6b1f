package instrcode

import (
	"bytes"
	"math"
	"slices"
	"testing"

	"regcert/api"
	"regcert/cursor"
)

// most is the largest integer in the encoding of layer 1.
var most = []byte{255, 255, 255, 255, 255, 255, 255, 255, 255, 1}

// join returns the first byte, followed by the others.
func join(first byte, others ...[]byte) []byte {
	return append([]byte{first}, slices.Concat(others...)...)
}

// readInstr reads b as an instruction and checks the result, the error, and the offset if there is no error.
func readInstr(t *testing.T, b []byte, regs int, want api.Instr, wantAt int, wantErr api.Errno) {
	t.Helper()
	c := cursor.New(b)
	got := Instr(c, regs)
	if got != want || c.Err() != wantErr || wantErr == api.OK && c.At() != wantAt {
		t.Errorf("Instr of %v with %d registers = %+v, error %d, offset %d, want %+v, %d, %d", b, regs, got, c.Err(), c.At(), want, wantErr, wantAt)
	}
}

// readMach does the same as an instruction of an allocated function.
func readMach(t *testing.T, b []byte, regs, slots int, want api.Mach, wantAt int, wantErr api.Errno) {
	t.Helper()
	c := cursor.New(b)
	got := Mach(c, regs, slots)
	if got != want || c.Err() != wantErr || wantErr == api.OK && c.At() != wantAt {
		t.Errorf("Mach of %v with %d registers and %d slots = %+v, error %d, offset %d, want %+v, %d, %d", b, regs, slots, got, c.Err(), c.At(), want, wantErr, wantAt)
	}
}

// readTerm does the same as a terminator.
func readTerm(t *testing.T, b []byte, regs, blocks int, want api.Term, wantAt int, wantErr api.Errno) {
	t.Helper()
	c := cursor.New(b)
	got := Term(c, regs, blocks)
	if got != want || c.Err() != wantErr || wantErr == api.OK && c.At() != wantAt {
		t.Errorf("Term of %v with %d registers and %d blocks = %+v, error %d, offset %d, want %+v, %d, %d", b, regs, blocks, got, c.Err(), c.At(), want, wantErr, wantAt)
	}
}

// P17.1, P17.2, P17.3: the encodings of instructions of source functions, which, but for the copy, are those of allocated functions.
func TestInstrTable(t *testing.T) {
	for _, x := range []struct {
		i    api.Instr
		want []byte
	}{
		{api.Instr{Op: 1, D: 3, Imm: -1}, []byte{1, 3, 1}},
		{api.Instr{Op: 1}, []byte{1, 0, 0}},
		{api.Instr{Op: 1, D: 127, Imm: 63}, []byte{1, 127, 126}},
		{api.Instr{Op: 1, D: 128, Imm: -64}, []byte{1, 128, 1, 127}},
		{api.Instr{Op: 1, D: 1, Imm: 64}, []byte{1, 1, 128, 1}},
		{api.Instr{Op: 1, D: 1, Imm: -65}, []byte{1, 1, 129, 1}},
		{api.Instr{Op: 1, D: 2, Imm: math.MinInt64}, join(1, []byte{2}, most)},
		{api.Instr{Op: 1, D: 2, Imm: math.MaxInt64}, []byte{1, 2, 254, 255, 255, 255, 255, 255, 255, 255, 255, 1}},
		{api.Instr{Op: 2, D: 1, A: 2}, []byte{2, 1, 2}},
		{api.Instr{Op: 3, D: 0, A: 200}, []byte{3, 0, 200, 1}},
		{api.Instr{Op: 4, D: 300, A: 0}, []byte{4, 172, 2, 0}},
		{api.Instr{Op: 5, D: 0, A: 1, B: 2}, []byte{5, 0, 1, 2}},
		{api.Instr{Op: 6, D: 3, A: 2, B: 1}, []byte{6, 3, 2, 1}},
		{api.Instr{Op: 7}, []byte{7, 0, 0, 0}},
		{api.Instr{Op: 8, D: 130, A: 131, B: 132}, []byte{8, 130, 1, 131, 1, 132, 1}},
		{api.Instr{Op: 9, D: 1, A: 1, B: 1}, []byte{9, 1, 1, 1}},
		{api.Instr{Op: 10, D: 4, A: 5, B: 6}, []byte{10, 4, 5, 6}},
		{api.Instr{Op: 11, D: 7, A: 8, B: 9}, []byte{11, 7, 8, 9}},
		{api.Instr{Op: 12, D: 1, A: 0, B: 0}, []byte{12, 1, 0, 0}},
		{api.Instr{Op: 13, D: 0, A: 1, B: 0}, []byte{13, 0, 1, 0}},
		{api.Instr{Op: 14, D: 0, A: 0, B: 1}, []byte{14, 0, 0, 1}},
		{api.Instr{Op: 15, D: 16383, A: 16384, B: 0}, []byte{15, 255, 127, 128, 128, 1, 0}},
		{api.Instr{Op: 16, D: 1<<20 - 1, A: 1, B: 1<<20 - 1}, []byte{16, 255, 255, 63, 1, 255, 255, 63}},
		{api.Instr{Op: 17, A: 5}, []byte{17, 5}},
		{api.Instr{Op: 17, A: 0}, []byte{17, 0}},
	} {
		if got := instrOut(x.i); !bytes.Equal(got, x.want) {
			t.Errorf("PutInstr of %+v writes %v, want %v", x.i, got, x.want)
		}
		readInstr(t, append(x.want, 9, 9), api.Limit, x.i, len(x.want), api.OK)
		m := api.Mach{Op: x.i.Op, D: x.i.D, A: x.i.A, B: x.i.B, Imm: x.i.Imm}
		if m.Op == 2 {
			readMach(t, x.want, api.Limit, 0, api.Mach{}, 0, api.ErrOpcode)
			continue
		}
		if got := machOut(m); !bytes.Equal(got, x.want) {
			t.Errorf("PutMach of %+v writes %v, want %v", m, got, x.want)
		}
		readMach(t, append(x.want, 9, 9), api.Limit, 0, m, len(x.want), api.OK)
	}
}

// P17.1, P17.2, P17.3: the encodings of moves.
func TestMoveTable(t *testing.T) {
	for _, x := range []struct {
		i    api.Mach
		want []byte
	}{
		{api.Mach{Op: 18, Dst: 4, Src: 7}, []byte{18, 4, 7}},
		{api.Mach{Op: 18, Dst: 7, Src: 4}, []byte{18, 7, 4}},
		{api.Mach{Op: 18}, []byte{18, 0, 0}},
		{api.Mach{Op: 18, Dst: 126, Src: 128}, []byte{18, 126, 128, 1}},
		{api.Mach{Op: 18, Dst: 129, Src: 0}, []byte{18, 129, 1, 0}},
		{api.Mach{Op: 18, Dst: 1<<21 - 1, Src: 1<<21 - 2}, []byte{18, 255, 255, 127, 254, 255, 127}},
		{api.Mach{Op: 18, Dst: 1<<21 - 2, Src: 1<<21 - 1}, []byte{18, 254, 255, 127, 255, 255, 127}},
	} {
		if got := machOut(x.i); !bytes.Equal(got, x.want) {
			t.Errorf("PutMach of %+v writes %v, want %v", x.i, got, x.want)
		}
		readMach(t, append(x.want, 9, 9), api.Limit, api.Limit, x.i, len(x.want), api.OK)
		readInstr(t, x.want, api.Limit, api.Instr{}, 0, api.ErrOpcode)
	}
}

// P17.1, P17.2, P17.3: the encodings of terminators.
func TestTermTable(t *testing.T) {
	for _, x := range []struct {
		t    api.Term
		want []byte
	}{
		{api.Term{Kind: 1, To: 200}, []byte{1, 200, 1}},
		{api.Term{Kind: 1}, []byte{1, 0}},
		{api.Term{Kind: 1, To: 1<<20 - 1}, []byte{1, 255, 255, 63}},
		{api.Term{Kind: 2}, []byte{2, 0, 0, 0}},
		{api.Term{Kind: 2, A: 1, To: 2, Else: 3}, []byte{2, 1, 2, 3}},
		{api.Term{Kind: 2, A: 300, To: 128, Else: 127}, []byte{2, 172, 2, 128, 1, 127}},
		{api.Term{Kind: 2, A: 0, To: 4, Else: 4}, []byte{2, 0, 4, 4}},
		{api.Term{Kind: 3}, []byte{3, 0}},
		{api.Term{Kind: 3, A: 127}, []byte{3, 127}},
		{api.Term{Kind: 3, A: 1<<20 - 1}, []byte{3, 255, 255, 63}},
	} {
		if got := termOut(x.t); !bytes.Equal(got, x.want) {
			t.Errorf("PutTerm of %+v writes %v, want %v", x.t, got, x.want)
		}
		readTerm(t, append(x.want, 9, 9), api.Limit, api.Limit, x.t, len(x.want), api.OK)
	}
}

// P17.1: the arguments of the first three functions are valid for some numbers, which may be larger than the limits of functions.
func TestPutLarge(t *testing.T) {
	const last = math.MaxInt - 1
	bytesOfLast := []byte{254, 255, 255, 255, 255, 255, 255, 255, 127}
	for _, x := range []struct {
		name      string
		got, want []byte
	}{
		{"instruction", instrOut(api.Instr{Op: 5, D: last, A: 1 << 32, B: last}), join(5, bytesOfLast, []byte{128, 128, 128, 128, 16}, bytesOfLast)},
		{"constant", instrOut(api.Instr{Op: 1, D: last, Imm: math.MinInt64}), join(1, bytesOfLast, most)},
		{"move", machOut(api.Mach{Op: 18, Dst: last, Src: last + 1}), join(18, bytesOfLast, []byte{255, 255, 255, 255, 255, 255, 255, 255, 127})},
		{"emit", machOut(api.Mach{Op: 17, A: last}), join(17, bytesOfLast)},
		{"branch", termOut(api.Term{Kind: 2, A: last, To: last, Else: last}), join(2, bytesOfLast, bytesOfLast, bytesOfLast)},
	} {
		if !bytes.Equal(x.got, x.want) {
			t.Errorf("%s: %v, want %v", x.name, x.got, x.want)
		}
	}
}

// P17.1: the encoding is appended to what has been written.
func TestPutAppends(t *testing.T) {
	var w cursor.Writer
	w.Bytes([]byte{7, 8})
	PutInstr(&w, api.Instr{Op: 17, A: 1})
	PutTerm(&w, api.Term{Kind: 3, A: 2})
	before := w.Out()
	PutMach(&w, api.Mach{Op: 18, Dst: 0, Src: 1})
	w.Byte(6)
	if want := []byte{7, 8, 17, 1, 3, 2, 18, 0, 1, 6}; !bytes.Equal(w.Out(), want) || !bytes.Equal(before, want[:6]) {
		t.Errorf("the writer has %v after %v, want %v", w.Out(), before, want)
	}
}

// P17.2: each error of reading an instruction, and which of several is the first.
func TestInstrErrors(t *testing.T) {
	for _, x := range []struct {
		b    []byte
		regs int
		want api.Errno
	}{
		{nil, 2, api.ErrShort},
		{[]byte{0}, 2, api.ErrOpcode},
		{[]byte{18}, 2, api.ErrOpcode},
		{[]byte{18, 0, 0}, 2, api.ErrOpcode},
		{[]byte{19}, 2, api.ErrOpcode},
		{[]byte{133, 0, 0, 0, 0}, 2, api.ErrOpcode}, // the digit of an addition, but a byte is not an encoded integer
		{[]byte{255, 1}, 2, api.ErrOpcode},
		{[]byte{1}, 2, api.ErrShort},
		{[]byte{1, 1}, 2, api.ErrShort},
		{[]byte{1, 1, 128}, 2, api.ErrShort},
		{[]byte{1, 1, 128, 0}, 2, api.ErrVarint},
		{[]byte{1, 129, 0, 0}, 2, api.ErrVarint},
		{[]byte{1, 2}, 2, api.ErrReg}, // rather than the ErrShort of the immediate
		{[]byte{1, 2, 128, 0}, 2, api.ErrReg},
		{join(1, []byte{1, 255, 255, 255, 255, 255, 255, 255, 255, 255, 2}), 2, api.ErrVarint},
		{[]byte{3, 1}, 2, api.ErrShort},
		{[]byte{3, 2, 2}, 2, api.ErrReg},
		{[]byte{3, 1, 2}, 2, api.ErrReg},
		{[]byte{3, 2, 128, 0}, 2, api.ErrReg},
		{[]byte{3, 1, 128, 0}, 2, api.ErrVarint},
		{[]byte{5, 1, 1}, 2, api.ErrShort},
		{[]byte{5, 1, 2}, 2, api.ErrReg},
		{[]byte{5, 1, 2, 128, 0}, 2, api.ErrReg},
		{[]byte{5, 1, 128, 0, 2}, 2, api.ErrVarint},
		{[]byte{5, 1, 1, 2}, 2, api.ErrReg},
		{[]byte{5, 1, 1, 128}, 2, api.ErrShort},
		{[]byte{17}, 2, api.ErrShort},
		{[]byte{17, 2}, 2, api.ErrReg},
		{[]byte{17, 0}, 0, api.ErrReg},
		{[]byte{1, 0, 0}, 0, api.ErrReg},
		{[]byte{1}, 0, api.ErrShort},
		{join(17, most), 2, api.ErrReg},
		{join(17, most), api.Limit, api.ErrReg},
		{[]byte{17, 255, 255, 255, 255, 255, 255, 255, 255, 255, 2}, 2, api.ErrVarint},
		{[]byte{17, 128, 128, 64}, api.Limit, api.ErrReg},                                        // 2^20
		{[]byte{17, 129, 128, 128, 128, 16}, api.Limit, api.ErrReg},                              // 2^32 + 1
		{[]byte{17, 128, 128, 128, 128, 128, 128, 128, 128, 128, 1}, api.Limit, api.ErrReg},      // 2^63
		{[]byte{17, 255, 255, 255, 255, 255, 255, 255, 255, 127}, api.Limit, api.ErrReg},         // 2^63 - 1
		{[]byte{5, 0, 129, 128, 128, 128, 128, 128, 128, 128, 128, 1, 0}, api.Limit, api.ErrReg}, // 2^63 + 1
	} {
		readInstr(t, x.b, x.regs, api.Instr{}, 0, x.want)
		if len(x.b) > 0 && x.b[0] == 18 {
			continue
		}
		readMach(t, x.b, x.regs, api.Limit, api.Mach{}, 0, x.want)
	}
}

// P17.2: each error of reading a move, and which of several is the first.
func TestMoveErrors(t *testing.T) {
	for _, x := range []struct {
		b           []byte
		regs, slots int
		want        api.Errno
	}{
		{[]byte{2, 1, 1}, 2, 2, api.ErrOpcode}, // a copy
		{[]byte{2}, 0, 0, api.ErrOpcode},
		{[]byte{18}, 2, 2, api.ErrShort},
		{[]byte{18, 0}, 2, 2, api.ErrShort},
		{[]byte{18, 1}, 2, 2, api.ErrShort},
		{[]byte{18, 128}, 2, 2, api.ErrShort},
		{[]byte{18, 128, 0, 0}, 2, 2, api.ErrVarint},
		{[]byte{18, 0, 128, 0}, 2, 2, api.ErrVarint},
		{[]byte{18, 1, 129, 0}, 2, 2, api.ErrVarint}, // rather than the ErrLoc of two slots
		{[]byte{18, 4}, 2, 2, api.ErrLoc},
		{[]byte{18, 4, 128, 0}, 2, 2, api.ErrLoc},
		{[]byte{18, 5, 0}, 2, 2, api.ErrLoc},
		{[]byte{18, 0, 4}, 2, 2, api.ErrLoc},
		{[]byte{18, 0, 5}, 2, 2, api.ErrLoc},
		{[]byte{18, 1, 1}, 2, 2, api.ErrLoc},
		{[]byte{18, 1, 3}, 2, 2, api.ErrLoc},
		{[]byte{18, 3, 1}, 2, 2, api.ErrLoc},
		{[]byte{18, 0, 0}, 0, 2, api.ErrLoc},
		{[]byte{18, 0, 1}, 2, 0, api.ErrLoc},
		{[]byte{18, 2, 0}, 1, 9, api.ErrLoc}, // the numbers of registers and slots are not exchanged
		{[]byte{18, 3, 0}, 9, 1, api.ErrLoc},
		{join(18, most, []byte{0}), 2, 2, api.ErrLoc},
		{join(18, []byte{0}, most), api.Limit, api.Limit, api.ErrLoc},
		{[]byte{18, 128, 128, 128, 1, 0}, api.Limit, api.Limit, api.ErrLoc},                                 // 2^21
		{[]byte{18, 0, 129, 128, 128, 1}, api.Limit, api.Limit, api.ErrLoc},                                 // 2^21 + 1
		{[]byte{18, 0, 130, 128, 128, 128, 16}, api.Limit, api.Limit, api.ErrLoc},                           // 2^32 + 2
		{[]byte{18, 128, 128, 128, 128, 128, 128, 128, 128, 128, 1, 0}, api.Limit, api.Limit, api.ErrLoc},   // 2^63
		{[]byte{18, 0, 129, 128, 128, 128, 128, 128, 128, 128, 128, 1}, api.Limit, api.Limit, api.ErrLoc},   // 2^63 + 1
		{[]byte{18, 255, 255, 255, 255, 255, 255, 255, 255, 255, 2}, api.Limit, api.Limit, api.ErrVarint},   // 2^64 and more
		{[]byte{18, 0, 128, 128, 128, 128, 128, 128, 128, 128, 128}, api.Limit, api.Limit, api.ErrShort},    // another byte would follow
		{[]byte{18, 0, 255, 255, 255, 255, 255, 255, 255, 255, 127}, api.Limit, api.Limit, api.ErrLoc},      // 2^63 - 1
		{[]byte{18, 255, 255, 255, 255, 255, 255, 255, 255, 255, 1}, api.Limit, api.Limit, api.ErrLoc},      // rather than the ErrShort of Src
		{[]byte{18, 255, 255, 255, 255, 255, 255, 255, 255, 255, 129}, api.Limit, api.Limit, api.ErrVarint}, // more than 1 in the last byte
	} {
		readMach(t, x.b, x.regs, x.slots, api.Mach{}, 0, x.want)
	}
}

// P17.2: each error of reading a terminator, and which of several is the first.
func TestTermErrors(t *testing.T) {
	for _, x := range []struct {
		b            []byte
		regs, blocks int
		want         api.Errno
	}{
		{nil, 2, 2, api.ErrShort},
		{[]byte{0}, 2, 2, api.ErrTerm},
		{[]byte{0, 0}, 2, 2, api.ErrTerm},
		{[]byte{4, 0, 0, 0}, 2, 2, api.ErrTerm},
		{[]byte{129, 0, 0}, 2, 2, api.ErrTerm},
		{[]byte{255}, 2, 2, api.ErrTerm},
		{[]byte{1}, 2, 2, api.ErrShort},
		{[]byte{1, 2}, 3, 2, api.ErrTarget},
		{[]byte{1, 0}, 2, 0, api.ErrTarget},
		{[]byte{1, 128, 0}, 2, 2, api.ErrVarint},
		{[]byte{2}, 2, 2, api.ErrShort},
		{[]byte{2, 2}, 2, 3, api.ErrReg},
		{[]byte{2, 2, 9, 9}, 2, 2, api.ErrReg},
		{[]byte{2, 0, 0, 0}, 0, 2, api.ErrReg},
		{[]byte{2, 1}, 2, 2, api.ErrShort},
		{[]byte{2, 1, 2}, 2, 2, api.ErrTarget},
		{[]byte{2, 1, 2, 128, 0}, 2, 2, api.ErrTarget},
		{[]byte{2, 1, 1}, 2, 2, api.ErrShort},
		{[]byte{2, 1, 1, 2}, 3, 2, api.ErrTarget},
		{[]byte{2, 1, 1, 128, 0}, 2, 2, api.ErrVarint},
		{[]byte{2, 1, 128, 0, 2}, 2, 2, api.ErrVarint},
		{[]byte{2, 0, 0, 0}, 2, 0, api.ErrTarget},
		{[]byte{3}, 2, 2, api.ErrShort},
		{[]byte{3, 2}, 2, 3, api.ErrReg},
		{[]byte{3, 0}, 0, 2, api.ErrReg},
		{[]byte{3, 128, 0}, 2, 2, api.ErrVarint},
		{join(1, most), 2, 2, api.ErrTarget},
		{join(3, most), 2, 2, api.ErrReg},
		{join(2, []byte{0, 0}, most), api.Limit, api.Limit, api.ErrTarget},
		{[]byte{1, 128, 128, 64}, api.Limit, api.Limit, api.ErrTarget},                                   // 2^20
		{[]byte{2, 128, 128, 64}, api.Limit, api.Limit, api.ErrReg},                                      // 2^20
		{[]byte{3, 129, 128, 128, 128, 16}, api.Limit, api.Limit, api.ErrReg},                            // 2^32 + 1
		{[]byte{1, 129, 128, 128, 128, 16}, api.Limit, api.Limit, api.ErrTarget},                         // 2^32 + 1
		{[]byte{1, 128, 128, 128, 128, 128, 128, 128, 128, 128, 1}, api.Limit, api.Limit, api.ErrTarget}, // 2^63
	} {
		readTerm(t, x.b, x.regs, x.blocks, api.Term{}, 0, x.want)
	}
}

// P17.2: numbers that are just in range, and those of the other kind, which have no effect.
func TestJustInRange(t *testing.T) {
	readInstr(t, []byte{5, 0, 0, 0}, 1, api.Instr{Op: 5}, 4, api.OK)
	readInstr(t, []byte{17, 255, 255, 63}, api.Limit, api.Instr{Op: 17, A: 1<<20 - 1}, 4, api.OK)
	readMach(t, []byte{17, 1}, 2, 0, api.Mach{Op: 17, A: 1}, 2, api.OK)
	readMach(t, []byte{18, 0, 0}, 1, 0, api.Mach{Op: 18}, 3, api.OK)
	readMach(t, []byte{18, 0, 3}, 1, 2, api.Mach{Op: 18, Dst: 0, Src: 3}, 3, api.OK)
	readMach(t, []byte{18, 3, 0}, 1, 2, api.Mach{Op: 18, Dst: 3, Src: 0}, 3, api.OK)
	readMach(t, []byte{18, 2, 2}, 2, 0, api.Mach{Op: 18, Dst: 2, Src: 2}, 3, api.OK)
	readTerm(t, []byte{1, 0}, 0, 1, api.Term{Kind: 1}, 2, api.OK)
	readTerm(t, []byte{3, 0}, 1, 0, api.Term{Kind: 3}, 2, api.OK)
	readTerm(t, []byte{2, 0, 1, 1}, 1, 2, api.Term{Kind: 2, To: 1, Else: 1}, 4, api.OK)
}

// P17.2: a cursor that has an error stays as it is.
func TestFailedCursor(t *testing.T) {
	for e := api.ErrShort; e <= api.ErrCommand; e++ {
		for name, read := range map[string]func(c *cursor.Cursor) bool{
			"Instr": func(c *cursor.Cursor) bool { return Instr(c, 2) == api.Instr{} },
			"Mach":  func(c *cursor.Cursor) bool { return Mach(c, 2, 2) == api.Mach{} },
			"Term":  func(c *cursor.Cursor) bool { return Term(c, 2, 2) == api.Term{} },
		} {
			for _, b := range [][]byte{nil, {0}, {1, 1, 1}, {2, 1, 1, 1}, {3, 1, 1}, {3, 9}, {18, 1, 0}, {18, 1, 1}} {
				c := cursor.New(append([]byte{7}, b...))
				c.Byte()
				c.Fail(e)
				if !read(c) || c.Err() != e || c.At() != 1 {
					t.Errorf("%s of %v after the error %d: not the zero value, or error %d, offset %d", name, b, e, c.Err(), c.At())
				}
			}
		}
	}
}

// P17.2: after an error, nothing more is read.
func TestErrorStays(t *testing.T) {
	c := cursor.New([]byte{17, 9, 17, 0, 3, 0})
	Instr(c, 2)
	if i, m, e := Instr(c, 2), Mach(c, 2, 2), Term(c, 2, 2); i != (api.Instr{}) || m != (api.Mach{}) || e != (api.Term{}) || c.Err() != api.ErrReg {
		t.Errorf("after an error: %v, %v, %v, %d", i, m, e, c.Err())
	}
}

// Arguments for which nothing is promised must not make the functions panic.
func TestUnspecified(t *testing.T) {
	PutInstr(nil, api.Instr{Op: 5})
	PutMach(nil, api.Mach{Op: 18})
	PutTerm(nil, api.Term{Kind: 2})
	if i, m, e := Instr(nil, 2), Mach(nil, 2, 2), Term(nil, 2, 2); i != (api.Instr{}) || m != (api.Mach{}) || e != (api.Term{}) {
		t.Errorf("of a nil cursor: %v, %v, %v", i, m, e)
	}
	numbers := []int{math.MinInt, -1, 0, 1, 18, 19, 256, 257, math.MaxInt}
	for _, n := range numbers {
		for _, v := range numbers {
			instrOut(api.Instr{Op: n, D: v, A: v, B: v, Imm: int64(v)})
			machOut(api.Mach{Op: n, D: v, A: v, B: v, Imm: int64(v), Dst: api.Loc(v), Src: api.Loc(v)})
			termOut(api.Term{Kind: n, A: v, To: v, Else: v})
			for op := range byte(20) {
				b := join(op, most, most, most)
				Instr(cursor.New(b), n)
				Mach(cursor.New(b), n, v)
				Term(cursor.New(b), n, v)
			}
		}
	}
}
