package liveness

import (
	"slices"
	"testing"

	"regcert/api"
	"regcert/source"
)

const limit = 1 << 20

// upTo returns the registers from 0 to n - 1.
func upTo(n int) []int {
	return which(n, func(int) bool { return true })
}

// expectSizes checks that f is valid, and the numbers of registers that are live at the entries and the exits of its blocks.
func expectSizes(t *testing.T, what string, f api.Func, in, out func(k int) int) {
	t.Helper()
	if e := source.Check(f); e != api.OK {
		t.Errorf("%s: the function has the error %d", what, e)
	}
	if k := wrongSize(In(f), in); k >= 0 {
		t.Errorf("%s: wrong number of registers at the entry of block %d", what, k)
	}
	if k := wrongSize(Out(f), out); k >= 0 {
		t.Errorf("%s: wrong number of registers at the exit of block %d", what, k)
	}
}

// wrongSize returns the first index at which l does not have the first registers, as many as size says; or -1.
func wrongSize(l [][]int, size func(k int) int) int {
	for k, live := range l {
		if len(live) != size(k) {
			return k
		}
		for j, v := range live {
			if v != j {
				return k
			}
		}
	}
	return -1
}

// always returns a function that returns n.
func always(n int) func(int) int {
	return func(int) int { return n }
}

// oneIf returns a function that returns 1 where is returns true, and 0 elsewhere.
func oneIf(is func(k int) bool) func(int) int {
	return func(k int) int {
		if is(k) {
			return 1
		}
		return 0
	}
}

// P23.1: blocks with 2^20 instructions and as many registers, of which the last one comes first.
func TestLargeBlock(t *testing.T) {
	all := upTo(limit)
	for _, x := range []struct {
		i          api.Instr
		uses, defs []int
	}{
		{define(0), nil, all}, {copyOf(0, 0), all, all}, {emit(0), all, nil},
	} {
		reads, writes := operands(x.i)
		b := block(jump(0))
		for v := limit - 1; v >= 0; v-- {
			i := x.i
			i.A, i.D = v*len(reads), v*len(writes)
			b.Code = append(b.Code, i)
		}
		if uses, defs := Uses(b), Defs(b); !slices.Equal(uses, x.uses) || !slices.Equal(defs, x.defs) {
			t.Errorf("opcode %d: %d and %d registers, want %d and %d", x.i.Op, len(uses), len(defs), len(x.uses), len(x.defs))
		}
	}
}

// P23.2: chains of 2^20 blocks, forwards and backwards, through which a register is live.
func TestChains(t *testing.T) {
	forwards, backwards := api.Func{Regs: 1}, api.Func{Regs: 1}
	for k := range limit {
		forwards.Blocks = append(forwards.Blocks, block(jump(k+1)))
		backwards.Blocks = append(backwards.Blocks, block(jump(k-1)))
	}
	forwards.Blocks[limit-1] = block(ret(0))
	backwards.Blocks[0] = block(ret(0))
	expectSizes(t, "forwards", forwards, always(1), oneIf(func(k int) bool { return k < limit-1 }))
	expectSizes(t, "backwards", backwards, always(1), oneIf(func(k int) bool { return k > 0 }))
	forwards.Blocks[limit/2].Code = []api.Instr{define(0)}
	expectSizes(t, "a definition in the middle", forwards, oneIf(func(k int) bool {
		return k > limit/2
	}), oneIf(func(k int) bool {
		return k >= limit/2 && k < limit-1
	}))
	backwards.Blocks[0] = block(jump(limit - 1))
	expectSizes(t, "a loop without a use", backwards, always(0), always(0))
	backwards.Blocks[7].Code = []api.Instr{emit(0)}
	expectSizes(t, "a loop with a use", backwards, always(1), always(1))
}

// P23.2: a block with 2^20 - 1 predecessors, each of them twice.
func TestManyPredecessors(t *testing.T) {
	f := api.Func{Regs: 1, Blocks: slices.Repeat([]api.Block{block(branch(0, limit-1, limit-1))}, limit)}
	expectSizes(t, "all blocks before one", f, always(1), always(1))
	for k := range f.Blocks {
		f.Blocks[k].Term.To = k
	}
	expectSizes(t, "loops before one block", f, always(1), always(1))
}

// P23.2: loops of 2^10 blocks with 2^10 registers, all of them live everywhere, in several orders of the blocks.
func TestManyRegisters(t *testing.T) {
	const n = 1 << 10
	for _, step := range []int{1, n - 1, 3, n/2 + 1} {
		f := api.Func{Regs: n}
		for k := range n {
			f.Blocks = append(f.Blocks, block(jump((k+step)%n), emit(k)))
		}
		expectSizes(t, "a loop", f, always(n), always(n))
	}
	f := api.Func{Regs: n}
	for k := range n {
		f.Blocks = append(f.Blocks, block(branch(k, (k+1)%n, k*k%n)))
	}
	expectSizes(t, "a loop with branches", f, always(n), always(n))
}

// P23.2: in a chain, one register more is live at the entry of each block before the ones that define them.
func TestTriangle(t *testing.T) {
	const n = 1 << 10
	f := api.Func{Regs: n}
	for k := range n {
		f.Blocks = append(f.Blocks, block(jump(k+1), define(k)))
	}
	last := block(ret(0))
	for k := range n {
		last.Code = append(last.Code, emit(k))
	}
	f.Blocks = append(f.Blocks, last)
	expectRange := func(what string, l [][]int, live func(k, v int) bool) {
		for k := range l {
			if !slices.Equal(l[k], which(n, func(v int) bool { return live(k, v) })) {
				t.Errorf("wrong registers at the %s of block %d", what, k)
			}
		}
	}
	expectRange("entry", In(f), func(k, v int) bool { return v < k })
	expectRange("exit", Out(f), func(k, v int) bool { return v <= k && k < n })
}

// P23.2: no registers at all.
func TestNothingLive(t *testing.T) {
	f := api.Func{Blocks: slices.Repeat([]api.Block{block(jump(limit - 1))}, limit)}
	expectSizes(t, "no registers", f, always(0), always(0))
}
