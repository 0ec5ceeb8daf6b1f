package funccode

import (
	"bytes"
	"math"
	"slices"
	"testing"

	"regcert/api"
	"regcert/cursor"
	"regcert/testkit"
)

// join returns the bytes of all parts.
func join(parts ...[]byte) []byte {
	return slices.Concat(parts...)
}

// readFunc reads b as a source function and checks the result, the error, and the offset if there is no error.
func readFunc(t *testing.T, b []byte, want api.Func, wantAt int, wantErr api.Errno) {
	t.Helper()
	c := cursor.New(b)
	got := Func(c)
	if !testkit.SameFunc(got, want) || c.Err() != wantErr || wantErr == api.OK && c.At() != wantAt {
		t.Errorf("Func of %v = %+v, error %d, offset %d, want %+v, %d, %d", shown(b), got, c.Err(), c.At(), want, wantErr, wantAt)
	}
}

// readMFunc does the same as an allocated function.
func readMFunc(t *testing.T, b []byte, want api.MFunc, wantAt int, wantErr api.Errno) {
	t.Helper()
	c := cursor.New(b)
	got := MFunc(c)
	if !testkit.SameMFunc(got, want) || c.Err() != wantErr || wantErr == api.OK && c.At() != wantAt {
		t.Errorf("MFunc of %v = %+v, error %d, offset %d, want %+v, %d, %d", shown(b), got, c.Err(), c.At(), want, wantErr, wantAt)
	}
}

// shown returns the bytes of b that a message shows.
func shown(b []byte) []byte {
	return b[:min(len(b), 200)]
}

func failFunc(t *testing.T, b []byte, want api.Errno) {
	t.Helper()
	readFunc(t, b, api.Func{}, 0, want)
}

func failMFunc(t *testing.T, b []byte, want api.Errno) {
	t.Helper()
	readMFunc(t, b, api.MFunc{}, 0, want)
}

var (
	returns0 = api.Term{Kind: 3}
	jumps0   = api.Term{Kind: 1}
)

// P18.1, P18.2, P18.4: the encodings of source functions.
func TestFuncTable(t *testing.T) {
	long := make([]api.Instr, 130)
	longBytes := []byte{0, 1, 1, 130, 1}
	for k := range long {
		long[k] = api.Instr{Op: 17}
		longBytes = append(longBytes, 17, 0)
	}
	many := make([]api.Block, 200)
	manyBytes := []byte{0, 0, 200, 1}
	for k := range many {
		many[k].Term = api.Term{Kind: 1, To: 199 - k}
		manyBytes = append(append(manyBytes, 0, 1), testkit.Digits(199-k)...)
	}
	for _, x := range []struct {
		f    api.Func
		want []byte
	}{
		{api.Func{Args: 0, Regs: 1, Blocks: []api.Block{{Term: returns0}}}, []byte{0, 1, 1, 0, 3, 0}},
		{api.Func{Args: 0, Regs: 0, Blocks: []api.Block{{Term: jumps0}}}, []byte{0, 0, 1, 0, 1, 0}},
		{api.Func{Args: 1, Regs: 1, Blocks: []api.Block{{Term: returns0}}}, []byte{1, 1, 1, 0, 3, 0}},
		{api.Func{Args: 128, Regs: 300, Blocks: []api.Block{{Term: api.Term{Kind: 3, A: 299}}}}, []byte{128, 1, 172, 2, 1, 0, 3, 171, 2}},
		{api.Func{Args: 1 << 20, Regs: 1 << 20, Blocks: []api.Block{{Term: jumps0}}}, []byte{128, 128, 64, 128, 128, 64, 1, 0, 1, 0}},
		{api.Func{Args: 1, Regs: 2, Blocks: []api.Block{{Code: []api.Instr{{Op: 3, D: 1}}, Term: api.Term{Kind: 3, A: 1}}}}, []byte{1, 2, 1, 1, 3, 1, 0, 3, 1}},
		{api.Func{Args: 2, Regs: 5, Blocks: []api.Block{
			{Code: []api.Instr{{Op: 1, D: 4, Imm: -2}, {Op: 2, D: 3, A: 1}, {Op: 8, D: 2, A: 3, B: 4}}, Term: api.Term{Kind: 2, A: 1, To: 2, Else: 1}},
			{Term: api.Term{Kind: 1, To: 2}},
			{Code: []api.Instr{{Op: 17, A: 2}}, Term: api.Term{Kind: 3, A: 4}},
		}}, []byte{2, 5, 3, 3, 1, 4, 3, 2, 3, 1, 8, 2, 3, 4, 2, 1, 2, 1, 0, 1, 2, 1, 17, 2, 3, 4}},
		{api.Func{Regs: 1, Blocks: []api.Block{{Code: long, Term: returns0}}}, append(longBytes, 3, 0)},
		{api.Func{Blocks: many}, manyBytes},
	} {
		if got := funcOut(x.f); !bytes.Equal(got, x.want) {
			t.Errorf("PutFunc of %+v writes %v, want %v", x.f, got, x.want)
		}
		readFunc(t, x.want, x.f, len(x.want), api.OK)
		readFunc(t, append(x.want, 255, 128), x.f, len(x.want), api.OK)
	}
}

// P18.1, P18.3, P18.4: the encodings of allocated functions.
func TestMFuncTable(t *testing.T) {
	many := make([]api.MBlock, 200)
	manyBytes := []byte{0, 0, 0, 200, 1}
	for k := range many {
		many[k].Term = api.Term{Kind: 1, To: 199 - k}
		manyBytes = append(append(manyBytes, 0, 1), testkit.Digits(199-k)...)
	}
	for _, x := range []struct {
		f    api.MFunc
		want []byte
	}{
		{api.MFunc{Args: 0, Regs: 1, Slots: 0, Blocks: []api.MBlock{{Term: returns0}}}, []byte{0, 1, 0, 1, 0, 3, 0}},
		{api.MFunc{Args: 0, Regs: 0, Slots: 0, Blocks: []api.MBlock{{Term: jumps0}}}, []byte{0, 0, 0, 1, 0, 1, 0}},
		{api.MFunc{Args: 2, Regs: 0, Slots: 2, Blocks: []api.MBlock{{Term: jumps0}}}, []byte{2, 0, 2, 1, 0, 1, 0}}, // more arguments than registers
		{api.MFunc{Args: 128, Regs: 300, Slots: 200, Blocks: []api.MBlock{{Term: api.Term{Kind: 3, A: 299}}}}, []byte{128, 1, 172, 2, 200, 1, 1, 0, 3, 171, 2}},
		{api.MFunc{Args: 1 << 20, Regs: 1 << 20, Slots: 1 << 20, Blocks: []api.MBlock{{Term: jumps0}}}, []byte{128, 128, 64, 128, 128, 64, 128, 128, 64, 1, 0, 1, 0}},
		{api.MFunc{Args: 1, Regs: 1, Slots: 2, Blocks: []api.MBlock{
			{Code: []api.Mach{{Op: 18, Dst: 0, Src: 1}, {Op: 3}, {Op: 18, Dst: 3, Src: 0}, {Op: 18, Dst: 0, Src: 3}}, Term: returns0},
		}}, []byte{1, 1, 2, 1, 4, 18, 0, 1, 3, 0, 0, 18, 3, 0, 18, 0, 3, 3, 0}},
		{api.MFunc{Args: 0, Regs: 3, Slots: 5, Blocks: []api.MBlock{
			{Code: []api.Mach{{Op: 1, D: 2, Imm: 70}}, Term: api.Term{Kind: 2, A: 2, To: 0, Else: 1}},
			{Code: []api.Mach{{Op: 17, A: 1}, {Op: 18, Dst: 9, Src: 4}}, Term: api.Term{Kind: 3, A: 1}},
		}}, []byte{0, 3, 5, 2, 1, 1, 2, 140, 1, 2, 2, 0, 1, 2, 17, 1, 18, 9, 4, 3, 1}},
		{api.MFunc{Blocks: many}, manyBytes},
	} {
		if got := mfuncOut(x.f); !bytes.Equal(got, x.want) {
			t.Errorf("PutMFunc of %+v writes %v, want %v", x.f, got, x.want)
		}
		readMFunc(t, x.want, x.f, len(x.want), api.OK)
		readMFunc(t, append(x.want, 255, 128), x.f, len(x.want), api.OK)
	}
}

// P18.1: the encoding is appended to what has been written.
func TestPutAppends(t *testing.T) {
	var w cursor.Writer
	w.Bytes([]byte{7, 8})
	PutFunc(&w, api.Func{Blocks: []api.Block{{Term: jumps0}}})
	PutMFunc(&w, api.MFunc{Slots: 1, Blocks: []api.MBlock{{Term: jumps0}}})
	w.Byte(9)
	if want := []byte{7, 8, 0, 0, 1, 0, 1, 0, 0, 0, 1, 1, 0, 1, 0, 9}; !bytes.Equal(w.Out(), want) {
		t.Errorf("the writer has %v, want %v", w.Out(), want)
	}
}

// P18.2: each error of reading a source function, and which of several is the first.
func TestFuncErrors(t *testing.T) {
	for _, x := range []struct {
		b    []byte
		want api.Errno
	}{
		// Args and Regs.
		{nil, api.ErrShort},
		{[]byte{128}, api.ErrShort},
		{[]byte{128, 0}, api.ErrVarint},
		{[]byte{129, 128, 64}, api.ErrLimit}, // 2^20 + 1
		{testkit.Digits(1<<32 + 1), api.ErrLimit},
		{[]byte{255, 255, 127}, api.ErrLimit},     // 2^21 - 1
		{[]byte{129, 128, 64, 0}, api.ErrLimit},   // rather than the ErrReg
		{[]byte{129, 128, 64, 128}, api.ErrLimit}, // rather than the ErrShort
		{[]byte{2}, api.ErrShort},
		{[]byte{2, 128}, api.ErrShort},
		{[]byte{2, 128, 0}, api.ErrVarint},
		{[]byte{2, 129, 128, 64}, api.ErrLimit},
		{[]byte{0, 129, 128, 64, 0}, api.ErrLimit}, // rather than the ErrCount
		{[]byte{2, 1}, api.ErrReg},                 // rather than the ErrShort
		{[]byte{1, 0, 128, 0}, api.ErrReg},         // rather than the ErrVarint
		{[]byte{2, 1, 0}, api.ErrReg},              // rather than the ErrCount
		{testkit.Digits(1<<20, 1<<20-1), api.ErrReg},
		// The number of blocks.
		{[]byte{0, 1}, api.ErrShort},
		{[]byte{0, 1, 129, 0}, api.ErrVarint},
		{[]byte{0, 1, 0}, api.ErrCount},
		{[]byte{0, 1, 0, 0, 3, 0}, api.ErrCount},
		{[]byte{0, 1, 1}, api.ErrShort},
		{[]byte{0, 1, 1, 129, 0}, api.ErrShort}, // rather than the ErrVarint: the bytes do not suffice for a block
		{[]byte{0, 1, 1, 129, 0, 0}, api.ErrVarint},
		{[]byte{0, 1, 2, 0, 3, 0, 0, 9}, api.ErrShort},
		{[]byte{0, 1, 2, 0, 3, 0, 0, 9, 0}, api.ErrTerm}, // now they suffice
		{[]byte{0, 1, 3, 0, 9, 0, 0, 9, 0, 0, 9}, api.ErrShort},
		{join([]byte{0, 1}, testkit.Digits(1<<20)), api.ErrShort},
		{join([]byte{0, 1}, testkit.Digits(1<<20), make([]byte, 3<<20-1)), api.ErrShort},
		{join([]byte{0, 1}, testkit.Digits(1<<20), make([]byte, 3<<20)), api.ErrTerm},
		{join([]byte{0, 1}, testkit.Digits(1<<20+1), make([]byte, 4<<20)), api.ErrLimit},
		{join([]byte{0, 1}, testkit.Digits(1<<20+1)), api.ErrLimit}, // rather than the ErrShort
		{join([]byte{0, 1}, testkit.Digits(math.MaxInt)), api.ErrLimit},
		{join([]byte{0, 1}, testkit.Digits(1<<32), []byte{0, 3, 0}), api.ErrLimit},
		{[]byte{0, 1, 128, 128, 192, 0}, api.ErrVarint},
		{[]byte{3, 2, 129, 128, 64}, api.ErrReg},
		{[]byte{0, 1, 1, 1, 17}, api.ErrShort},
		{[]byte{0, 1, 1, 1, 17, 0}, api.ErrShort}, // without its terminator
		{[]byte{0, 1, 1, 2, 17, 0, 3}, api.ErrShort},
		{[]byte{0, 1, 1, 2, 17, 0, 3, 0}, api.ErrShort}, // a negation that ends too early
		{[]byte{0, 1, 1, 2, 0, 0, 0}, api.ErrShort},     // rather than the ErrOpcode: the bytes do not suffice for two instructions
		{[]byte{0, 1, 1, 2, 0, 0, 0, 0}, api.ErrOpcode},
		{[]byte{0, 1, 1, 129, 128, 64, 0}, api.ErrLimit}, // the number of instructions, rather than the ErrShort
		{[]byte{0, 1, 1, 128, 128, 64, 0}, api.ErrShort},
		{[]byte{0, 1, 1, 128, 128}, api.ErrShort},
		{[]byte{0, 1, 1, 128, 128, 0}, api.ErrVarint},
		{[]byte{0, 1, 1, 1, 18, 0, 0, 3, 0}, api.ErrOpcode}, // a move
		{[]byte{0, 1, 1, 1, 0, 0, 3, 0}, api.ErrOpcode},
		{[]byte{0, 1, 1, 1, 17, 1, 3, 0}, api.ErrReg},
		{[]byte{0, 1, 1, 1, 17, 128, 0, 3, 0}, api.ErrVarint},
		{[]byte{0, 1, 1, 2, 17, 1, 0, 0, 3, 0}, api.ErrReg}, // rather than the ErrOpcode of the second instruction
		{[]byte{0, 1, 1, 2, 17, 0, 0, 0, 3, 0}, api.ErrOpcode},
		{[]byte{0, 1, 1, 1, 17, 1, 4, 0}, api.ErrReg}, // rather than the ErrTerm
		{[]byte{0, 1, 1, 0, 4, 0}, api.ErrTerm},
		{[]byte{0, 1, 1, 0, 0, 0}, api.ErrTerm},
		{[]byte{0, 1, 1, 0, 3, 1}, api.ErrReg},
		{[]byte{0, 0, 1, 0, 3, 0}, api.ErrReg},
		{[]byte{0, 1, 1, 0, 1, 1}, api.ErrTarget},
		{[]byte{0, 1, 1, 0, 2, 0, 1, 0}, api.ErrTarget},
		{[]byte{0, 1, 1, 0, 2, 0, 0, 1}, api.ErrTarget},
		{[]byte{0, 1, 1, 0, 2, 0, 0}, api.ErrShort},
		{[]byte{0, 1, 1, 0, 1, 128}, api.ErrShort},
		{[]byte{0, 1, 2, 0, 3, 1, 1, 0, 0}, api.ErrReg}, // the first block, rather than the second
		{[]byte{0, 1, 2, 0, 1, 1, 0, 1, 2}, api.ErrTarget},
		{[]byte{0, 1, 2, 0, 3, 0, 129, 0, 0}, api.ErrVarint}, // the number of instructions of the second block
		{[]byte{0, 1, 2, 0, 3, 0, 129, 128, 64}, api.ErrLimit},
		{[]byte{0, 1, 2, 0, 3, 0, 2, 17, 0}, api.ErrShort},
		{[]byte{0, 1, 2, 1, 17, 0, 1, 1, 1, 17, 1}, api.ErrReg},
		{[]byte{0, 1, 2, 1, 17, 0, 1, 2, 1, 17, 1}, api.ErrTarget},
	} {
		failFunc(t, x.b, x.want)
	}
}

// P18.3: each error of reading an allocated function, and which of several is the first.
func TestMFuncErrors(t *testing.T) {
	for _, x := range []struct {
		b    []byte
		want api.Errno
	}{
		// Args, Regs and Slots.
		{nil, api.ErrShort},
		{[]byte{1}, api.ErrShort},
		{[]byte{1, 0}, api.ErrShort}, // more arguments than registers are no error
		{[]byte{128, 0}, api.ErrVarint},
		{[]byte{1, 128, 0}, api.ErrVarint},
		{[]byte{1, 0, 128, 0}, api.ErrVarint},
		{[]byte{129, 128, 64}, api.ErrLimit},
		{[]byte{0, 129, 128, 64}, api.ErrLimit},
		{[]byte{0, 129, 128, 64, 128, 0}, api.ErrLimit},
		{[]byte{0, 0, 129, 128, 64}, api.ErrLimit},
		{[]byte{1, 129, 128, 64, 0}, api.ErrLimit},   // rather than the ErrLoc
		{[]byte{129, 128, 64, 128, 0}, api.ErrLimit}, // rather than the ErrVarint
		{testkit.Digits(0, 1<<32+1, 0, 1, 0, 1), api.ErrLimit},
		{[]byte{1, 1, 0}, api.ErrLoc},
		{[]byte{1, 0, 0}, api.ErrLoc},
		{[]byte{3, 5, 2, 128, 0}, api.ErrLoc},
		{[]byte{3, 5, 2, 0}, api.ErrLoc},
		{testkit.Digits(1<<20, 1<<20, 1<<20-1), api.ErrLoc},
		// The number of blocks.
		{[]byte{1, 1, 1}, api.ErrShort},
		{[]byte{1, 1, 1, 0}, api.ErrCount},
		{[]byte{0, 1, 0, 0, 0, 3, 0}, api.ErrCount},
		{[]byte{0, 1, 0, 129, 0}, api.ErrVarint},
		{[]byte{0, 1, 0, 1, 0, 3}, api.ErrShort},
		{[]byte{0, 1, 0, 1, 9, 9}, api.ErrShort},
		{[]byte{0, 1, 0, 2, 0, 9, 0, 0, 3}, api.ErrShort},
		{[]byte{0, 1, 0, 2, 0, 9, 0, 0, 3, 0}, api.ErrTerm},
		{join([]byte{0, 1, 0}, testkit.Digits(1<<20)), api.ErrShort},
		{join([]byte{0, 1, 0}, testkit.Digits(1<<20), make([]byte, 3<<20-1)), api.ErrShort},
		{join([]byte{0, 1, 0}, testkit.Digits(1<<20), make([]byte, 3<<20)), api.ErrTerm},
		{join([]byte{0, 1, 0}, testkit.Digits(1<<20+1), make([]byte, 4<<20)), api.ErrLimit},
		{join([]byte{0, 1, 0}, testkit.Digits(1<<20+1)), api.ErrLimit},
		{join([]byte{0, 1, 0}, testkit.Digits(math.MaxInt)), api.ErrLimit},
		// The numbers of instructions.
		{[]byte{0, 1, 0, 1, 129, 0, 0}, api.ErrVarint},
		{[]byte{0, 1, 0, 1, 129, 128, 64, 0}, api.ErrLimit},
		{[]byte{0, 1, 0, 1, 128, 128, 64, 0}, api.ErrShort},
		{[]byte{0, 1, 0, 1, 2, 17, 0, 3}, api.ErrShort},
		{[]byte{0, 1, 0, 1, 2, 9, 9, 9}, api.ErrShort},
		{[]byte{0, 1, 0, 2, 0, 3, 0, 2, 17, 0, 17}, api.ErrShort},
		// Instructions and terminators.
		{[]byte{0, 1, 0, 1, 1, 2, 0, 0, 3, 0}, api.ErrOpcode}, // a copy
		{[]byte{0, 1, 0, 1, 1, 19, 0, 0, 3, 0}, api.ErrOpcode},
		{[]byte{0, 1, 0, 1, 1, 17, 1, 3, 0}, api.ErrReg},
		{[]byte{0, 1, 9, 1, 1, 17, 1, 3, 0}, api.ErrReg},
		{[]byte{0, 1, 0, 1, 1, 18, 0, 2, 3, 0}, api.ErrLoc},
		{[]byte{0, 1, 0, 1, 1, 18, 0, 1, 3, 0}, api.ErrLoc},
		{[]byte{0, 1, 1, 1, 1, 18, 3, 0, 3, 0}, api.ErrLoc},
		{[]byte{0, 1, 1, 1, 1, 18, 1, 1, 3, 0}, api.ErrLoc},
		{[]byte{0, 1, 1, 1, 2, 18, 1, 1, 2, 0, 0}, api.ErrLoc},
		{[]byte{0, 1, 1, 1, 2, 17, 1, 18, 1, 1}, api.ErrReg},
		{[]byte{0, 1, 0, 1, 1, 17, 0, 3, 1}, api.ErrReg},
		{[]byte{0, 1, 5, 1, 1, 17, 0, 3, 1}, api.ErrReg}, // slots are no operands
		{[]byte{0, 1, 0, 1, 1, 17, 0, 1, 1}, api.ErrTarget},
		{[]byte{0, 1, 0, 1, 1, 17, 0, 2, 0, 0, 1}, api.ErrTarget},
		{[]byte{0, 1, 0, 1, 1, 17, 0, 4, 0}, api.ErrTerm},
		{[]byte{0, 1, 0, 1, 1, 17, 0, 3}, api.ErrShort},
		{[]byte{0, 1, 0, 1, 1, 17, 0}, api.ErrShort},
		{[]byte{0, 1, 0, 2, 0, 3, 1, 1, 0, 0}, api.ErrReg},
		{[]byte{0, 1, 0, 2, 0, 3, 0, 1, 17, 0, 1, 2}, api.ErrTarget},
	} {
		failMFunc(t, x.b, x.want)
	}
}

// moves returns n moves, which alternate between three kinds.
func moves(n int) []byte {
	var b []byte
	for k := range n {
		b = append(b, [][]byte{{18, 0, 1}, {18, 1, 0}, {18, 0, 0}}[k%3]...)
	}
	return b
}

// withMoves is the encoding of an allocated function with a register, a slot and a block of n instructions.
func withMoves(n int, parts ...[]byte) []byte {
	return join([]byte{0, 1, 1, 1}, testkit.Digits(n), join(parts...))
}

// P18.3: ErrMoves is the error of the first move that follows 64 others, rather than one of what is behind it.
func TestMoves(t *testing.T) {
	emit, end := []byte{17, 0}, []byte{3, 0}
	for _, x := range []struct {
		b    []byte
		want api.Errno
	}{
		{withMoves(63, moves(63), end), api.OK},
		{withMoves(64, moves(64), end), api.OK},
		{withMoves(65, moves(65), end), api.ErrMoves},
		{withMoves(66, moves(66), end), api.ErrMoves},
		{withMoves(129, moves(129), end), api.ErrMoves},
		{withMoves(65, emit, moves(64), end), api.OK},
		{withMoves(66, emit, moves(65), end), api.ErrMoves},
		{withMoves(65, moves(64), emit, end), api.OK},
		{withMoves(129, moves(64), emit, moves(64), end), api.OK},
		{withMoves(130, moves(64), emit, moves(65), end), api.ErrMoves},
		{withMoves(130, moves(65), emit, moves(64), end), api.ErrMoves},
		{withMoves(66, moves(1), emit, moves(64), end), api.OK},
		{withMoves(66, moves(64), emit, moves(1), end), api.OK},
		{withMoves(128, moves(63), emit, moves(64), end), api.OK},
		// What is wrong before and behind the 65th move.
		{withMoves(65, moves(65)), api.ErrMoves},
		{withMoves(65, moves(65), []byte{9, 9}), api.ErrMoves},
		{withMoves(66, moves(65), []byte{2, 0, 0}, end), api.ErrMoves},
		{withMoves(66, moves(65), []byte{18, 9, 9}, end), api.ErrMoves},
		{withMoves(66, moves(3), []byte{17, 1}, moves(62), end), api.ErrReg},
		{withMoves(66, moves(3), []byte{18, 1, 1}, moves(62), end), api.ErrLoc},
		{withMoves(65, moves(64), end), api.ErrShort}, // a negation without its last operand
		// What begins as a 65th move has the error of layer 17.
		{withMoves(65, moves(64), []byte{18, 1, 1}, end), api.ErrLoc},
		{withMoves(65, moves(64), []byte{18, 2, 0}, end), api.ErrLoc},
		{withMoves(65, moves(64), []byte{18, 128, 0, 0}, end), api.ErrVarint},
		{withMoves(65, moves(64), []byte{18, 0}), api.ErrShort},
		{withMoves(65, moves(64), []byte{18}), api.ErrShort},
	} {
		f, n, e := mfuncModel(x.b)
		if e != x.want {
			t.Fatalf("the model has the error %d for %v, want %d", e, x.b, x.want)
		}
		readMFunc(t, x.b, f, n, e)
	}
	// Each block has moves of its own.
	half := join(testkit.Digits(64), moves(64), []byte{1, 1})
	readModel := join([]byte{0, 1, 1, 2}, half, testkit.Digits(64), moves(64), end)
	f, n, e := mfuncModel(readModel)
	if e != api.OK {
		t.Fatal(e)
	}
	readMFunc(t, readModel, f, n, api.OK)
	failMFunc(t, join([]byte{0, 1, 1, 2}, half, testkit.Digits(65), moves(65), end), api.ErrMoves)
}

// P18.2, P18.3: if the cursor has an error, nothing is read, and it stays as it is.
func TestFailed(t *testing.T) {
	b := []byte{9, 0, 1, 1, 0, 3, 0, 0, 0}
	for _, e := range []api.Errno{api.ErrShort, api.ErrArg, api.ErrMoves, -1, 99} {
		c := cursor.New(b)
		c.Byte()
		c.Fail(e)
		f, m := Func(c), MFunc(c)
		if !testkit.SameFunc(f, api.Func{}) || !testkit.SameMFunc(m, api.MFunc{}) || c.Err() != e || c.At() != 1 {
			t.Errorf("%+v and %+v are read after the error %d, then the error is %d, and the offset %d", f, m, e, c.Err(), c.At())
		}
	}
	if f, m := Func(nil), MFunc(nil); !testkit.SameFunc(f, api.Func{}) || !testkit.SameMFunc(m, api.MFunc{}) {
		t.Errorf("%+v and %+v are read from a nil cursor", f, m)
	}
	PutFunc(nil, api.Func{Regs: 1, Blocks: []api.Block{{Code: []api.Instr{{Op: 17}}, Term: returns0}}})
	PutMFunc(nil, api.MFunc{Regs: 1, Blocks: []api.MBlock{{Code: []api.Mach{{Op: 17}}, Term: returns0}}})
}

// P1: what PutFunc and PutMFunc write for other functions is not specified, but they do not panic.
func TestPutUnspecified(t *testing.T) {
	for _, n := range testkit.Around(3) {
		for _, op := range testkit.Opcodes() {
			term := api.Term{Kind: op, A: n, To: n, Else: n}
			funcOut(api.Func{Args: n, Regs: n, Blocks: []api.Block{{}, {Code: []api.Instr{{Op: op, D: n, A: n, B: n, Imm: int64(n)}}, Term: term}}})
			mfuncOut(api.MFunc{Args: n, Regs: n, Slots: n, Blocks: []api.MBlock{{}, {Code: []api.Mach{{Op: op, D: n, A: n, B: n, Imm: int64(n), Dst: api.Loc(n), Src: api.Loc(n)}}, Term: term}}})
		}
	}
	funcOut(api.Func{})
	mfuncOut(api.MFunc{})
}
