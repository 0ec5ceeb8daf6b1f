package liveness

import (
	"slices"
	"testing"

	"regcert/api"
	"regcert/source"
)

func instr(op, d, a, b int) api.Instr                 { return api.Instr{Op: op, D: d, A: a, B: b} }
func define(d int) api.Instr                          { return api.Instr{Op: 1, D: d, Imm: 7} }
func copyOf(d, a int) api.Instr                       { return api.Instr{Op: 2, D: d, A: a} }
func add(d, a, b int) api.Instr                       { return instr(5, d, a, b) }
func emit(a int) api.Instr                            { return api.Instr{Op: 17, A: a} }
func jump(to int) api.Term                            { return api.Term{Kind: 1, To: to} }
func branch(a, to, other int) api.Term                { return api.Term{Kind: 2, A: a, To: to, Else: other} }
func ret(a int) api.Term                              { return api.Term{Kind: 3, A: a} }
func set(l ...int) []int                              { return l }
func sets(l ...[]int) [][]int                         { return l }
func same(a, b [][]int) bool                          { return slices.EqualFunc(a, b, slices.Equal[[]int]) }
func block(t api.Term, code ...api.Instr) api.Block   { return api.Block{Code: code, Term: t} }
func function(regs int, blocks ...api.Block) api.Func { return api.Func{Regs: regs, Blocks: blocks} }

// expectBlock checks Uses and Defs.
func expectBlock(t *testing.T, b api.Block, uses, defs []int) {
	t.Helper()
	if l := Uses(b); !slices.Equal(l, uses) {
		t.Errorf("%+v uses %v, want %v", b, l, uses)
	}
	if l := Defs(b); !slices.Equal(l, defs) {
		t.Errorf("%+v defines %v, want %v", b, l, defs)
	}
}

// expect checks In and Out of a function that must be valid.
func expect(t *testing.T, f api.Func, in, out [][]int) {
	t.Helper()
	if e := source.Check(f); e != api.OK {
		t.Errorf("%+v has the error %d", f, e)
	}
	if l := In(f); !same(l, in) {
		t.Errorf("%+v: live at the entries are %v, want %v", f, l, in)
	}
	if l := Out(f); !same(l, out) {
		t.Errorf("%+v: live at the exits are %v, want %v", f, l, out)
	}
}

// P23.1: the fields that count are those of the shape of each opcode; register 0 is not used where an unused field is 0.
func TestShapes(t *testing.T) {
	for op := 1; op <= 17; op++ {
		switch {
		case op == 1:
			expectBlock(t, block(jump(0), define(4)), set(), set(4))
			expectBlock(t, block(jump(0), define(0)), set(), set(0))
		case op <= 4:
			expectBlock(t, block(jump(0), instr(op, 4, 3, 0)), set(3), set(4))
			expectBlock(t, block(jump(0), instr(op, 0, 3, 0)), set(3), set(0))
			expectBlock(t, block(jump(0), instr(op, 3, 3, 0)), set(3), set(3))
		case op <= 16:
			expectBlock(t, block(jump(0), instr(op, 4, 3, 2)), set(2, 3), set(4))
			expectBlock(t, block(jump(0), instr(op, 4, 2, 3)), set(2, 3), set(4))
			expectBlock(t, block(jump(0), instr(op, 4, 3, 3)), set(3), set(4))
			expectBlock(t, block(jump(0), instr(op, 3, 3, 2)), set(2, 3), set(3))
			expectBlock(t, block(jump(0), instr(op, 2, 3, 2)), set(2, 3), set(2))
			expectBlock(t, block(jump(0), instr(op, 0, 0, 0)), set(0), set(0))
		default:
			expectBlock(t, block(jump(0), emit(3)), set(3), set())
			expectBlock(t, block(jump(0), emit(0)), set(0), set())
		}
	}
}

// P23.1: terminators, of blocks without instructions, and after a definition.
func TestTerminators(t *testing.T) {
	expectBlock(t, block(jump(0)), set(), set())
	expectBlock(t, block(jump(5)), set(), set())
	expectBlock(t, block(branch(0, 1, 2)), set(0), set())
	expectBlock(t, block(branch(3, 1, 1)), set(3), set())
	expectBlock(t, block(ret(0)), set(0), set())
	expectBlock(t, block(ret(limit-1)), set(limit-1), set())
	expectBlock(t, block(ret(3), define(3)), set(), set(3))
	expectBlock(t, block(branch(3, 0, 0), define(3)), set(), set(3))
	expectBlock(t, block(ret(3), define(2)), set(3), set(2))
	expectBlock(t, block(jump(3), define(2)), set(), set(2))
	expectBlock(t, block(ret(0), emit(0)), set(0), set())
}

// The example of the chapter.
func TestExample(t *testing.T) {
	expectBlock(t, block(ret(1), add(1, 0, 1)), set(0, 1), set(1))
}

// P23.1: what is used before it is defined, and what only afterwards; each register once, in ascending order.
func TestOrder(t *testing.T) {
	expectBlock(t, block(jump(0), define(1), emit(1)), set(), set(1))
	expectBlock(t, block(jump(0), emit(1), define(1)), set(1), set(1))
	expectBlock(t, block(jump(0), emit(1), define(1), emit(1), define(1)), set(1), set(1))
	expectBlock(t, block(jump(0), define(1), copyOf(1, 1)), set(), set(1))
	expectBlock(t, block(jump(0), copyOf(1, 1), emit(1)), set(1), set(1))
	expectBlock(t, block(jump(0), copyOf(1, 2), copyOf(2, 1)), set(2), set(1, 2))
	expectBlock(t, block(jump(0), copyOf(2, 1), copyOf(3, 2), copyOf(1, 3)), set(1), set(1, 2, 3))
	expectBlock(t, block(jump(0), define(2), add(1, 2, 3)), set(3), set(1, 2))
	expectBlock(t, block(jump(0), define(3), add(1, 2, 3)), set(2), set(1, 3))
	expectBlock(t, block(ret(1), emit(9), emit(5), emit(7), emit(5), emit(0), emit(9), emit(3)), set(0, 1, 3, 5, 7, 9), set())
	expectBlock(t, block(jump(1), define(9), define(5), define(7), define(5), define(0), define(9), define(3)), set(), set(0, 3, 5, 7, 9))
	expectBlock(t, block(ret(limit-1), emit(100), define(1000), emit(10), define(20)), set(10, 100, limit-1), set(20, 1000))
}

// P23.2: functions with one block.
func TestSingle(t *testing.T) {
	expect(t, function(1, block(ret(0))), sets(set(0)), sets(set()))
	expect(t, function(2, block(ret(1), define(1))), sets(set()), sets(set()))
	expect(t, function(0, block(jump(0))), sets(set()), sets(set()))
	expect(t, function(1, block(jump(0), emit(0))), sets(set(0)), sets(set(0)))
	expect(t, function(1, block(jump(0), define(0))), sets(set()), sets(set()))
	expect(t, function(1, block(jump(0), emit(0), define(0))), sets(set(0)), sets(set(0)))
	expect(t, function(1, block(jump(0), define(0), emit(0))), sets(set()), sets(set()))
	expect(t, function(3, block(branch(2, 0, 0), copyOf(1, 0))), sets(set(0, 2)), sets(set(0, 2)))
	expect(t, function(3, block(branch(2, 0, 0), copyOf(2, 0))), sets(set(0)), sets(set(0)))
}

// P23.2: a path ends at the first block that uses the register, and does not pass one that defines it.
func TestPaths(t *testing.T) {
	expect(t, function(1, block(jump(1)), block(jump(2)), block(ret(0))), sets(set(0), set(0), set(0)), sets(set(0), set(0), set()))
	expect(t, function(1, block(jump(1)), block(jump(2), define(0)), block(ret(0))), sets(set(), set(), set(0)), sets(set(), set(0), set()))
	expect(t, function(1, block(jump(1)), block(jump(2), emit(0), define(0)), block(ret(0))), sets(set(0), set(0), set(0)), sets(set(0), set(0), set()))
	expect(t, function(1, block(jump(1)), block(jump(2), define(0), emit(0)), block(ret(0))), sets(set(), set(), set(0)), sets(set(), set(0), set()))
	expect(t, function(1, block(jump(1), define(0)), block(jump(2)), block(ret(0))), sets(set(), set(0), set(0)), sets(set(0), set(0), set()))
	expect(t, function(2, block(jump(1), emit(0)), block(jump(2)), block(ret(1))), sets(set(0, 1), set(1), set(1)), sets(set(1), set(1), set()))
	expect(t, function(2, block(ret(1)), block(jump(2)), block(jump(0), define(0))), sets(set(1), set(1), set(1)), sets(set(), set(1), set(1)))
}

// P23.2: a register is live at an exit if it is live at the entry of one of two successors, which may be equal.
func TestBranches(t *testing.T) {
	expect(t, function(4,
		block(branch(0, 1, 2)), block(jump(3), emit(1), define(3)), block(jump(3), emit(2)), block(ret(3)),
	), sets(set(0, 1, 2, 3), set(1), set(2, 3), set(3)), sets(set(1, 2, 3), set(3), set(3), set()))
	expect(t, function(4,
		block(branch(0, 2, 1)), block(jump(3), emit(1), define(3)), block(jump(3), define(3)), block(ret(3)),
	), sets(set(0, 1), set(1), set(), set(3)), sets(set(1), set(3), set(3), set()))
	expect(t, function(2, block(branch(0, 1, 1)), block(ret(1))), sets(set(0, 1), set(1)), sets(set(1), set()))
	expect(t, function(2, block(branch(0, 1, 1), define(1)), block(ret(1))), sets(set(0), set(1)), sets(set(1), set()))
}

// P23.2: loops, also one with two entries, and one within another.
func TestLoops(t *testing.T) {
	expect(t, function(3,
		block(jump(1), define(1)), block(branch(0, 2, 3)), block(jump(1), add(2, 2, 0), instr(6, 0, 0, 1)), block(ret(2)),
	), sets(set(0, 2), set(0, 1, 2), set(0, 1, 2), set(2)), sets(set(0, 1, 2), set(0, 1, 2), set(0, 1, 2), set()))
	expect(t, function(4,
		block(branch(0, 1, 2)), block(jump(2), emit(1)), block(branch(3, 1, 3), define(2)), block(ret(2)),
	), sets(set(0, 1, 3), set(1, 3), set(1, 3), set(2)), sets(set(1, 3), set(1, 3), set(1, 2, 3), set()))
	expect(t, function(5,
		block(jump(1), define(0)), block(branch(1, 2, 5)), block(branch(2, 3, 4), define(3)), block(jump(2), emit(3), define(2)), block(jump(1), emit(4)), block(ret(0)),
	), sets(set(1, 2, 4), set(0, 1, 2, 4), set(0, 1, 2, 4), set(0, 1, 3, 4), set(0, 1, 2, 4), set(0)),
		sets(set(0, 1, 2, 4), set(0, 1, 2, 4), set(0, 1, 2, 3, 4), set(0, 1, 2, 4), set(0, 1, 2, 4), set()))
	expect(t, function(1, block(jump(1)), block(jump(0))), sets(set(), set()), sets(set(), set()))
	expect(t, function(1, block(jump(1)), block(jump(0), emit(0))), sets(set(0), set(0)), sets(set(0), set(0)))
}

// P23.2: arguments and blocks that no run reaches are as all others.
func TestUnreached(t *testing.T) {
	f := function(3, block(ret(1)), block(jump(2), emit(0)), block(jump(1), emit(2)), block(jump(0), define(1)))
	for args := range 4 {
		f.Args = args
		expect(t, f, sets(set(1), set(0, 2), set(0, 2), set()), sets(set(), set(0, 2), set(0, 2), set(1)))
	}
}
