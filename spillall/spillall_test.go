package spillall

import (
	"math"
	"reflect"
	"slices"
	"testing"

	"regcert/api"
	"regcert/checker"
	"regcert/testkit"
)

func instr(op, d, a, b int) api.Instr           { return api.Instr{Op: op, D: d, A: a, B: b} }
func constant(d int, imm int64) api.Instr       { return api.Instr{Op: 1, D: d, Imm: imm} }
func copyOf(d, a int) api.Instr                 { return api.Instr{Op: 2, D: d, A: a} }
func on(op, b int) api.Mach                     { return api.Mach{Op: op, B: b} }
func jump(to int) api.Term                      { return api.Term{Kind: 1, To: to} }
func branch(a, to, other int) api.Term          { return api.Term{Kind: 2, A: a, To: to, Else: other} }
func ret(a int) api.Term                        { return api.Term{Kind: 3, A: a} }
func code(l ...api.Instr) []api.Instr           { return l }
func mach(l ...api.Mach) []api.Mach             { return l }
func block(l []api.Instr, t api.Term) api.Block { return api.Block{Code: l, Term: t} }

// single is a function with one block.
func single(args, regs int, l []api.Instr, t api.Term) api.Func {
	return api.Func{Args: args, Regs: regs, Blocks: []api.Block{block(l, t)}}
}

// copies is n copies of register 0 to itself.
func copies(n int) []api.Instr {
	return times(n, copyOf(0, 0))
}

// times is n times the instruction i.
func times(n int, i api.Instr) []api.Instr {
	return slices.Repeat(code(i), n)
}

// expectBlock checks Block and Moves.
func expectBlock(t *testing.T, b api.Block, want []api.Mach, term api.Term, moves int) {
	t.Helper()
	if m := Block(b); !slices.Equal(m.Code, want) || m.Term != term {
		t.Errorf("%+v becomes %+v, want %+v and %+v", b, m, want, term)
	}
	if n := Moves(b); n != moves {
		t.Errorf("%+v has runs of %d moves, want %d", b, n, moves)
	}
}

// P22.1: single instructions, with all opcodes.
func TestInstructions(t *testing.T) {
	for _, imm := range []int64{0, 5, -1, math.MinInt64, math.MaxInt64} {
		want := mach(api.Mach{Op: 1, Imm: imm}, move(9, 0))
		expectBlock(t, block(code(constant(4, imm)), jump(1)), want, jump(1), 1)
	}
	expectBlock(t, block(code(copyOf(4, 3)), jump(0)), mach(move(0, 7), move(9, 0)), jump(0), 2)
	expectBlock(t, block(code(copyOf(4, 4)), jump(0)), mach(move(0, 9), move(9, 0)), jump(0), 2)
	for _, op := range []int{3, 4} {
		expectBlock(t, block(code(instr(op, 4, 3, 0)), jump(0)), mach(move(0, 7), on(op, 0), move(9, 0)), jump(0), 1)
		expectBlock(t, block(code(instr(op, 0, 0, 0)), jump(0)), mach(move(0, 1), on(op, 0), move(1, 0)), jump(0), 1)
	}
	for op := 5; op <= 16; op++ {
		expectBlock(t, block(code(instr(op, 4, 3, 2)), jump(0)), mach(move(0, 7), move(2, 5), on(op, 1), move(9, 0)), jump(0), 2)
		expectBlock(t, block(code(instr(op, 1, 1, 1)), jump(0)), mach(move(0, 3), move(2, 3), on(op, 1), move(3, 0)), jump(0), 2)
		expectBlock(t, block(code(instr(op, 0, 0, 0)), jump(0)), mach(move(0, 1), move(2, 1), on(op, 1), move(1, 0)), jump(0), 2)
	}
	expectBlock(t, block(code(instr(17, 0, 3, 0)), jump(0)), mach(move(0, 7), on(17, 0)), jump(0), 1)
}

// The example of the chapter.
func TestExample(t *testing.T) {
	expectBlock(t, block(code(instr(api.OpAdd, 0, 1, 2)), jump(0)), mach(
		move(0, 3), move(2, 5), api.Mach{Op: api.OpAdd, D: 0, A: 0, B: 1}, move(1, 0),
	), jump(0), 2)
}

// P22.1: terminators, of blocks without instructions.
func TestTerminators(t *testing.T) {
	expectBlock(t, api.Block{Term: jump(0)}, nil, jump(0), 0)
	expectBlock(t, block(code(), jump(7)), nil, jump(7), 0)
	expectBlock(t, api.Block{Term: branch(0, 0, 0)}, mach(move(0, 1)), branch(0, 0, 0), 1)
	expectBlock(t, api.Block{Term: branch(5, 2, 3)}, mach(move(0, 11)), branch(0, 2, 3), 1)
	expectBlock(t, api.Block{Term: ret(0)}, mach(move(0, 1)), ret(0), 1)
	expectBlock(t, api.Block{Term: ret(limit - 1)}, mach(move(0, 2*limit-1)), ret(0), 1)
}

// P22.1: runs of moves go on from an instruction to the next one and to the terminator.
func TestRuns(t *testing.T) {
	add, emit, zero := instr(5, 0, 0, 0), instr(17, 0, 0, 0), constant(0, 0)
	for k, x := range []struct {
		code []api.Instr
		term api.Term
		want int
	}{
		{nil, jump(0), 0}, {nil, ret(0), 1},
		{code(zero), jump(0), 1}, {code(zero), branch(0, 0, 0), 2}, {code(zero, zero), jump(0), 1}, {code(zero, zero, zero), ret(0), 2},
		{code(emit), jump(0), 1}, {code(emit, emit, emit), ret(0), 1}, {code(zero, emit), jump(0), 2}, {code(emit, zero), jump(0), 1},
		{code(add), ret(0), 2}, {code(add, add), jump(0), 3}, {code(add, add, add), ret(0), 3}, {code(add, zero, add), jump(0), 3},
		{copies(1), jump(0), 2}, {copies(1), ret(0), 3}, {copies(7), jump(0), 14}, {copies(40), ret(0), 81},
		{append(copies(3), add), jump(0), 8}, {append(copies(3), zero), ret(0), 6}, {append(copies(3), emit), ret(0), 7},
		{append(code(add), copies(3)...), jump(0), 7}, {append(code(zero), copies(3)...), ret(0), 8}, {append(code(emit), copies(3)...), ret(0), 7},
		{slices.Concat(copies(2), code(emit), copies(3), code(emit), copies(1)), ret(0), 7},
		{slices.Concat(copies(4), code(zero), copies(3), code(zero), copies(2)), jump(0), 8},
		{slices.Concat(copies(1), code(zero), copies(2), code(zero), copies(3)), ret(0), 8},
	} {
		if n := Moves(block(x.code, x.term)); n != x.want {
			t.Errorf("block %d has runs of %d moves, want %d", k, n, x.want)
		}
	}
}

// expectCert checks what Cert returns, and that it is accepted.
func expectCert(t *testing.T, f api.Func, want api.Cert) {
	t.Helper()
	c, err := Cert(f)
	if err != api.OK || !testkit.SameCert(c, want) {
		t.Errorf("%+v: %+v and error %d, want %+v", f, c, err, want)
	}
	if r := checker.Check(c); r.Err != api.OK {
		t.Errorf("%+v: the check has the report %+v", f, r)
	}
}

// fails checks that Cert returns a zero certificate and this error.
func fails(t *testing.T, what string, f api.Func, want api.Errno) {
	t.Helper()
	if c, err := Cert(f); err != want || !reflect.DeepEqual(c, api.Cert{}) {
		t.Errorf("%s: %d blocks and error %d, want %d", what, len(c.T.Blocks), err, want)
	}
}

// P22.2, P22.3: the examples 1 to 3 of the document.
func TestNegation(t *testing.T) {
	f := single(1, 2, code(instr(3, 1, 0, 0)), ret(1))
	expectCert(t, f, api.Cert{
		S: f,
		T: api.MFunc{Args: 1, Regs: 2, Slots: 2, Blocks: []api.MBlock{{Code: mach(move(0, 1), on(3, 0), move(3, 0), move(0, 3)), Term: ret(0)}}},
		W: [][]api.Pair{{{V: 0, L: 1}, {V: 1, L: 3}}},
	})
}

// P22.2, P22.3: several blocks; more registers than arguments, and as many; and no registers.
func TestCertificates(t *testing.T) {
	w := []api.Pair{{V: 0, L: 1}, {V: 1, L: 3}, {V: 2, L: 5}}
	f := api.Func{Args: 1, Regs: 3, Blocks: []api.Block{
		block(code(constant(1, 9)), branch(0, 2, 1)), block(code(copyOf(2, 1), copyOf(0, 2)), jump(0)), block(code(instr(17, 0, 2, 0)), ret(2)),
	}}
	allocated := []api.MBlock{
		{Code: mach(api.Mach{Op: 1, Imm: 9}, move(3, 0), move(0, 1)), Term: branch(0, 2, 1)},
		{Code: mach(move(0, 3), move(5, 0), move(0, 5), move(1, 0)), Term: jump(0)},
		{Code: mach(move(0, 5), on(17, 0), move(0, 5)), Term: ret(0)},
	}
	expectCert(t, f, api.Cert{S: f, T: api.MFunc{Args: 1, Regs: 2, Slots: 3, Blocks: allocated}, W: [][]api.Pair{w, w, w}})
	f.Args = 3
	expectCert(t, f, api.Cert{S: f, T: api.MFunc{Args: 3, Regs: 2, Slots: 3, Blocks: allocated}, W: [][]api.Pair{w, w, w}})
	f.Args = 0
	expectCert(t, f, api.Cert{S: f, T: api.MFunc{Args: 0, Regs: 2, Slots: 3, Blocks: allocated}, W: [][]api.Pair{w, w, w}})
	f = single(0, 0, nil, jump(0))
	expectCert(t, f, api.Cert{S: f, T: api.MFunc{Regs: 2, Blocks: []api.MBlock{{Term: jump(0)}}}, W: [][]api.Pair{nil}})
}

// P22.3: registers that change places, chains of copies, and copies of a result that is not yet in its slot.
func TestCopies(t *testing.T) {
	add, divide := instr(5, 0, 1, 2), instr(8, 2, 2, 0)
	for k, l := range [][]api.Instr{
		code(copyOf(2, 0), copyOf(0, 1), copyOf(1, 2)),
		code(copyOf(1, 0), copyOf(0, 2)), code(copyOf(1, 0), copyOf(1, 2)), code(copyOf(1, 0), copyOf(0, 2), copyOf(2, 1), copyOf(1, 0)),
		code(add, copyOf(1, 0), copyOf(0, 2)), code(add, copyOf(0, 2), copyOf(1, 0)), code(add, copyOf(0, 0), copyOf(2, 0), divide),
		code(divide, copyOf(0, 2), copyOf(2, 1), add, copyOf(2, 0), copyOf(1, 2), instr(17, 0, 1, 0)),
	} {
		f := single(2, 3, l, ret(1))
		f.Blocks = append(f.Blocks, block(l, branch(2, 0, 1)))
		c, err := Cert(f)
		if r := checker.Check(c); err != api.OK || r.Err != api.OK || r.Blocks != 2 || r.Edges != 2 {
			t.Errorf("function %d: error %d, report %+v", k, err, r)
		}
	}
}

// P22.2: the errors of the source function come first.
func TestSourceErrors(t *testing.T) {
	many := copies(40)
	for k, x := range []struct {
		f    api.Func
		want api.Errno
	}{
		{api.Func{}, 14}, {api.Func{Args: 1}, 9}, {api.Func{Args: -1, Regs: 1}, 9}, {api.Func{Regs: limit + 1}, 6}, {api.Func{Args: limit, Regs: limit}, 14},
		{single(0, 1, many, ret(1)), 9}, {single(0, 1, many, jump(1)), 11}, {single(0, 1, many, api.Term{}), 16}, {single(0, 1, many, api.Term{Kind: 3, To: 1}), 12},
		{single(0, 1, append(code(instr(18, 0, 0, 0)), many...), ret(0)), 8}, {single(0, 1, append(many, instr(0, 0, 0, 0)), ret(0)), 8},
		{single(0, 0, nil, ret(0)), 9}, {single(0, 1, code(instr(3, 0, 0, 1)), ret(0)), 12}, {single(2, 1, many, ret(0)), 9},
		{api.Func{Regs: limit, Blocks: []api.Block{{Term: jump(0)}, {Term: jump(2)}}}, 11},
	} {
		if _, err := certModel(x.f); err != x.want {
			t.Errorf("function %d: the model has the error %d, want %d", k, err, x.want)
		}
		fails(t, "an invalid function", x.f, x.want)
	}
}

// P22.2: 64 moves are accepted, and 65 are not, wherever they are.
func TestMoves(t *testing.T) {
	add, emit, zero := instr(5, 0, 0, 0), instr(17, 0, 0, 0), constant(0, 0)
	for k, x := range []struct {
		code []api.Instr
		term api.Term
		want int
	}{
		{copies(31), ret(0), 63}, {copies(32), jump(0), 64}, {copies(32), ret(0), 65}, {copies(32), branch(0, 0, 0), 65}, {copies(33), jump(0), 66},
		{append(code(zero), copies(31)...), jump(0), 63}, {append(code(zero), copies(31)...), ret(0), 64}, {append(code(add), copies(32)...), jump(0), 65},
		{append(copies(31), add), jump(0), 64}, {append(copies(32), zero), ret(0), 64}, {append(copies(32), emit), jump(0), 65},
		{slices.Concat(code(zero), copies(31), code(emit)), jump(0), 64}, {slices.Concat(code(zero), copies(31), code(add)), jump(0), 65},
		{slices.Concat(copies(32), code(zero), copies(31), code(zero), copies(31)), ret(0), 64},
		{slices.Concat(copies(20), code(emit), copies(32), code(emit), copies(20)), ret(0), 65},
	} {
		f := api.Func{Args: 1, Regs: 2, Blocks: []api.Block{{Term: jump(1)}, {Code: x.code, Term: x.term}, {Term: ret(1)}}}
		want, err := certModel(f)
		if n := Moves(f.Blocks[1]); n != x.want || x.want > 64 != (err != api.OK) {
			t.Errorf("function %d: %d moves, want %d; the model has the error %d", k, n, x.want, err)
		}
		if err == api.OK {
			expectCert(t, f, want)
		} else {
			fails(t, "too many moves", f, api.ErrMoves)
		}
	}
}
