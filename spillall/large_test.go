package spillall

import (
	"runtime"
	"slices"
	"testing"

	"regcert/api"
	"regcert/checker"
	"regcert/testkit"
)

const limit = 1 << 20

// chain is a function with n blocks, each with the same instructions, that jump to the next one, of which the last one jumps to itself.
func chain(n, regs int, l []api.Instr) api.Func {
	f := api.Func{Regs: regs}
	for k := range n {
		f.Blocks = append(f.Blocks, block(l, jump(min(k+1, n-1))))
	}
	return f
}

// expectAccepted checks that Cert returns an accepted certificate with these numbers of pairs and allocated instructions.
func expectAccepted(t *testing.T, what string, f api.Func, pairs, instructions int) {
	t.Helper()
	c, err := Cert(f)
	if err != api.OK || !testkit.SameFunc(c.S, f) {
		t.Errorf("%s: %d blocks, error %d", what, len(c.S.Blocks), err)
	}
	p, n := 0, 0
	for k, b := range c.T.Blocks {
		p, n = p+len(c.W[k]), n+len(b.Code)
	}
	if p != pairs || n != instructions {
		t.Errorf("%s: %d pairs and %d instructions, want %d and %d", what, p, n, pairs, instructions)
	}
	if r := checker.Check(c); r.Err != api.OK {
		t.Errorf("%s: the report is %+v", what, r)
	}
}

// P22.2, P22.3: the limit of the number of blocks times the number of registers.
func TestPairLimit(t *testing.T) {
	expectAccepted(t, "2^20 blocks and no registers", chain(limit, 0, nil), 0, 0)
	expectAccepted(t, "2^20 blocks and a register", chain(limit, 1, nil), limit, 0)
	expectAccepted(t, "2^10 blocks and 2^10 registers", chain(1<<10, 1<<10, nil), limit, 0)
	expectAccepted(t, "a block and 2^20 registers", chain(1, limit, nil), limit, 0)
	expectAccepted(t, "4 blocks and 2^18 registers", chain(4, limit/4, nil), limit, 0)
	for _, n := range [][2]int{{limit, 2}, {limit, limit}, {limit/2 + 1, 2}, {17, 61681}, {1<<10 + 1, 1 << 10}, {1 << 10, 1<<10 + 1}, {2, limit/2 + 1}, {2, limit}, {3, 349526}} {
		fails(t, "too many pairs", chain(n[0], n[1], nil), api.ErrLimit)
	}
	expectAccepted(t, "3 blocks and 349525 registers", chain(3, 349525, nil), limit-1, 0)
}

// spread is the instruction i n times, in blocks of 1000 or fewer.
func spread(n int, i api.Instr) api.Func {
	f := api.Func{Args: 1, Regs: 1}
	for ; n > 1000; n -= 1000 {
		f.Blocks = append(f.Blocks, block(times(1000, i), jump(0)))
	}
	f.Blocks = append(f.Blocks, block(times(n, i), jump(0)))
	return f
}

// P22.2, P22.3: the limit of the number of allocated instructions, for each number of them that an instruction becomes.
func TestInstructionLimit(t *testing.T) {
	for _, x := range []struct {
		op, each int
	}{{1, 2}, {3, 3}, {5, 4}, {17, 2}} {
		i, n := api.Instr{Op: x.op}, limit/x.each
		f := spread(n, i)
		expectAccepted(t, "2^20 instructions", f, len(f.Blocks), n*x.each)
		fails(t, "more than 2^20 instructions", spread(n+1, i), api.ErrLimit)
		fails(t, "many more than 2^20 instructions", spread(limit, i), api.ErrLimit)
	}
	fails(t, "more than 2^20 instructions of the source function", spread(limit+1, constant(0, 0)), api.ErrLimit)
	short := copies(32)
	expectAccepted(t, "2^20 moves", chain(limit/64, 1, short), limit/64, limit)
	fails(t, "more than 2^20 moves", chain(limit/64+1, 1, short), api.ErrLimit)
}

// P22.2: the moves of terminators are counted.
func TestInstructionLimitTerminators(t *testing.T) {
	n := limit - 1
	f := api.Func{Args: 1, Regs: 1, Blocks: slices.Repeat([]api.Block{{Term: branch(0, 0, 0)}}, n)}
	f.Blocks = append(f.Blocks, block(nil, ret(0)))
	expectAccepted(t, "2^20 moves of terminators", f, limit, limit)
	f.Blocks[5].Code = code(constant(0, 0))
	fails(t, "two instructions more", f, api.ErrLimit)
	f.Blocks[5].Term = jump(0)
	fails(t, "one instruction more", f, api.ErrLimit)
	f.Blocks[7].Term = jump(0)
	expectAccepted(t, "2^20 moves and instructions", f, limit, limit)
}

// P22.2: both limits come before the runs of moves, wherever these are.
func TestLimitsFirst(t *testing.T) {
	f := chain(limit/2, 2, nil)
	f.Blocks[0].Code = copies(33)
	fails(t, "a long run", f, api.ErrMoves)
	f.Blocks = append(f.Blocks, block(nil, jump(0)))
	fails(t, "a long run and too many pairs", f, api.ErrLimit)
	f = spread(limit/2-33, constant(0, 0))
	f.Blocks = append([]api.Block{block(copies(33), jump(0))}, f.Blocks...)
	fails(t, "a long run and 2^20 instructions", f, api.ErrMoves)
	f.Blocks = append(f.Blocks, block(nil, ret(0)))
	fails(t, "a long run and more than 2^20 instructions", f, api.ErrLimit)
	fails(t, "2^19 copies in a block", single(1, 1, copies(limit/2), jump(0)), api.ErrMoves)
	fails(t, "2^19 copies in a block, and a return", single(1, 1, copies(limit/2), ret(0)), api.ErrLimit)
}

// P22.2: the limits of layer 16 for the sets in a block are not those of Cert, whose certificate is valid.
func TestValid(t *testing.T) {
	c, err := Cert(single(0, limit, nil, ret(limit-1)))
	if e := checker.Valid(c); err != api.OK || e != api.OK || len(c.W[0]) != limit {
		t.Errorf("errors %d and %d, %d pairs", err, e, len(c.W[0]))
	}
}

// P22.2: what does not fit is not built.
func TestAllocation(t *testing.T) {
	for _, f := range []api.Func{spread(limit, instr(5, 0, 0, 0)), single(1, 1, times(limit, instr(5, 0, 0, 0)), ret(0)), chain(limit, limit, nil)} {
		var before, after runtime.MemStats
		runtime.ReadMemStats(&before)
		_, err := Cert(f)
		runtime.ReadMemStats(&after)
		if n := after.TotalAlloc - before.TotalAlloc; err != api.ErrLimit || n > 1<<16 {
			t.Errorf("error %d, %d bytes allocated", err, n)
		}
	}
}
