package blockcheck

import (
	"math"
	"slices"
	"testing"

	"regcert/api"
	"regcert/testkit"
)

// Opcodes, kinds and locations are written as numbers, so that their constants and definitions are compared too: register n is 2 * n, and slot n is 2 * n + 1.

func p(v int, l api.Loc) api.Pair             { return api.Pair{V: v, L: l} }
func set(l ...api.Pair) []api.Pair            { return l }
func instr(op, d, a, b int) api.Instr         { return api.Instr{Op: op, D: d, A: a, B: b} }
func on(op, d, a, b int) api.Mach             { return api.Mach{Op: op, D: d, A: a, B: b} }
func copyOf(d, a int) api.Instr               { return api.Instr{Op: 2, D: d, A: a} }
func move(dst, src api.Loc) api.Mach          { return api.Mach{Op: 18, Dst: dst, Src: src} }
func instrs(l ...api.Instr) []api.Instr       { return l }
func machs(l ...api.Mach) []api.Mach          { return l }
func jump(to int) api.Term                    { return api.Term{Kind: 1, To: to} }
func branch(a, to, other int) api.Term        { return api.Term{Kind: 2, A: a, To: to, Else: other} }
func ret(a int) api.Term                      { return api.Term{Kind: 3, A: a} }
func failed(e api.Errno, at, s, l int) Result { return Result{Err: e, At: at, Steps: s, Largest: l} }

// accepted returns the result without an error.
func accepted(at, steps, largest int, out ...api.Pair) Result {
	return Result{Out: out, At: at, Steps: steps, Largest: largest}
}

// same reports whether a and b are the same result. Nil and empty slices are the same.
func same(a, b Result) bool {
	return slices.Equal(a.Out, b.Out) && a.Err == b.Err && a.At == b.At && a.Steps == b.Steps && a.Largest == b.Largest
}

// A situation is what a check is called with.
type situation struct {
	b    api.Block
	m    api.MBlock
	in   []api.Pair
	most int
}

// situationOf returns the situation of two blocks with the same terminator and enough room for pairs.
func situationOf(code []api.Instr, mach []api.Mach, t api.Term, in ...api.Pair) situation {
	return situation{api.Block{Code: code, Term: t}, api.MBlock{Code: mach, Term: t}, in, 100}
}

// with returns the situation with another size limit.
func (x situation) with(most int) situation {
	x.most = most
	return x
}

// ending returns the situation with these terminators.
func (x situation) ending(b, m api.Term) situation {
	x.b.Term, x.m.Term = b, m
	return x
}

// check returns the result.
func (x situation) check() Result {
	return Check(x.b, x.m, x.in, x.most)
}

// expect compares the result with want.
func (x situation) expect(t *testing.T, want Result) {
	t.Helper()
	if r := x.check(); !same(r, want) {
		t.Errorf("Check(%v, %v, %v, %d) = %+v, want %+v", x.b, x.m, x.in, x.most, r, want)
	}
}

// The example of the chapter.
func TestExample(t *testing.T) {
	emit, moved := instrs(instr(17, 0, 0, 0)), machs(move(2, 1), on(17, 0, 1, 0))
	situationOf(emit, moved, jump(0), p(0, 1)).expect(t, accepted(2, 5, 2, p(0, 1), p(0, 2)))
	situationOf(emit, moved[1:], jump(0), p(0, 1)).expect(t, failed(21, 0, 2, 1))
}

// The examples 2 to 5 of DOC.md.
func TestNegation(t *testing.T) {
	neg := instrs(instr(3, 1, 0, 0))
	spilled := machs(move(0, 1), on(3, 0, 0, 0), move(3, 0), move(0, 3))
	x := situationOf(neg, spilled, ret(0), p(0, 1), p(1, 3)).ending(ret(1), ret(0))
	x.expect(t, accepted(4, 3+4+4+3+4+4, 3, p(0, 1), p(1, 0), p(1, 3)))
	x.m.Code = spilled[:3]
	x.expect(t, accepted(3, 3+4+4+3+4, 3, p(0, 1), p(1, 0), p(1, 3)))
	x.m.Code = machs(move(0, 1), on(3, 1, 0, 0), move(3, 0), move(0, 3))
	x.expect(t, failed(21, 4, 3+4+4+4+5+5, 4))
	x.m.Code = machs(move(0, 1), on(5, 0, 0, 0), move(3, 0), move(0, 3))
	x.expect(t, failed(20, 1, 0, 2))
}

// P14.1, P14.3: blocks without instructions.
func TestEmptyBlocks(t *testing.T) {
	in := set(p(0, 3), p(1, 4), p(1, 6))
	empty := situationOf(nil, nil, jump(7), in...)
	empty.expect(t, accepted(0, 0, 3, in...))
	empty.with(3).expect(t, accepted(0, 0, 3, in...))
	situationOf(nil, nil, jump(0)).expect(t, accepted(0, 0, 0))
	situationOf(nil, nil, jump(0)).with(0).expect(t, accepted(0, 0, 0))
	empty.ending(ret(1), ret(3)).expect(t, accepted(0, 4, 3, in...))
	empty.ending(ret(1), ret(1)).expect(t, failed(21, 0, 4, 3))
	empty.ending(branch(1, 8, 9), branch(2, 8, 9)).expect(t, accepted(0, 4, 3, in...))
	empty.ending(branch(0, 8, 9), branch(2, 8, 9)).expect(t, failed(21, 0, 4, 3))
	// Register 0 is in slot 1, which is not a machine register.
	empty.ending(ret(0), ret(1)).expect(t, failed(21, 0, 4, 3))
	situationOf(nil, nil, ret(0)).expect(t, failed(21, 0, 1, 0))
}

// P14.1, P14.3: each operation with all fields that it uses, and without the pair of one of its operands.
func TestOpcodes(t *testing.T) {
	in := set(p(1, 9), p(2, 10), p(3, 12), p(7, 8), p(8, 4))
	for op := 1; op <= 17; op++ {
		if op == 2 {
			continue
		}
		i, m, want := api.Instr{Op: op}, api.Mach{Op: op}, accepted(1, 0, 5, in...)
		uses, _ := testkit.InstrUses(op)
		for _, letter := range uses {
			switch letter {
			case 'D':
				i.D, m.D = 1, 4
				want.Out = set(p(1, 8), p(2, 10), p(3, 12), p(8, 4))
				want.Steps += 6
			case 'A':
				i.A, m.A = 2, 5
				want.Steps += 6
			case 'B':
				i.B, m.B = 3, 6
				want.Steps += 6
			case 'I':
				i.Imm, m.Imm = -9, -9
			}
		}
		x := situationOf(instrs(i), machs(m), jump(0), in...)
		x.expect(t, want)
		if i.A != 0 {
			x.in = slices.Concat(in[:1], in[2:])
			x.expect(t, failed(21, 0, 5, 4))
		}
		if i.B != 0 {
			x.in = slices.Concat(in[:2], in[3:])
			x.expect(t, failed(21, 0, 10, 4))
		}
	}
}

// P14.1, P14.2, P14.3: all uses of a block with moves.
func TestUse(t *testing.T) {
	code := instrs(instr(5, 2, 0, 1), instr(17, 0, 2, 0))
	mach := machs(move(0, 1), move(2, 3), on(5, 2, 0, 1), move(5, 4), move(2, 5), on(17, 0, 1, 0))
	out := set(p(0, 0), p(0, 1), p(1, 3), p(2, 2), p(2, 4), p(2, 5))
	x := situationOf(code, mach, jump(2), p(0, 1), p(1, 3))
	const moved, added, before = 3 + 4, 5 + 5 + 5, 6 + 7
	const emitted = moved + added + before + 7
	x.expect(t, accepted(6, emitted, 6, out...))
	x.ending(branch(2, 3, 4), branch(1, 3, 4)).expect(t, accepted(6, emitted+7, 6, out...))
	x.ending(ret(2), ret(2)).expect(t, accepted(6, emitted+7, 6, out...))
	x.ending(branch(2, 3, 4), branch(0, 3, 4)).expect(t, failed(21, 6, emitted+7, 6))
	x.ending(ret(1), ret(1)).expect(t, failed(21, 6, emitted+7, 6))
	for k, c := range []struct {
		change             func(mach []api.Mach)
		at, steps, largest int
	}{
		// The operand A of the addition is not where it must be, or B is not, or both are not.
		{func(mach []api.Mach) { mach[0].Src = 3 }, 2, moved + 5, 4},
		{func(mach []api.Mach) { mach[2].A = 1 }, 2, moved + 5, 4},
		{func(mach []api.Mach) { mach[1].Src = 1 }, 2, moved + 5 + 5, 4},
		{func(mach []api.Mach) { mach[2].B = 0 }, 2, moved + 5 + 5, 4},
		{func(mach []api.Mach) { mach[2].A, mach[2].B = 1, 0 }, 2, moved + 5, 4},
		// What is emitted is another register, or unknown, or elsewhere.
		{func(mach []api.Mach) { mach[3].Src = 0 }, 5, moved + added + before + 7, 6},
		{func(mach []api.Mach) { mach[4].Src = 7 }, 5, moved + added + before + 6, 6},
		{func(mach []api.Mach) { mach[5].A = 0 }, 5, moved + added + before + 7, 6},
	} {
		t.Log("change", k)
		y := x
		y.m.Code = slices.Clone(mach)
		c.change(y.m.Code)
		y.expect(t, failed(21, c.at, c.steps, c.largest))
	}
}

// P14.1: a definition makes what was known of its register and its location unknown, after its own operands.
func TestDefinitions(t *testing.T) {
	neg, emits := instr(3, 0, 0, 0), instr(17, 0, 0, 0)
	in := set(p(0, 0), p(0, 3), p(1, 2))
	situationOf(instrs(neg, emits), machs(on(3, 1, 0, 0), on(17, 0, 1, 0)), jump(0), in...).expect(t, accepted(2, 4+4+2, 3, p(0, 2)))
	situationOf(instrs(neg, emits), machs(on(3, 1, 0, 0), on(17, 0, 0, 0)), jump(0), in...).expect(t, failed(21, 1, 4+4+2, 3))
	situationOf(instrs(neg, instr(17, 0, 1, 0)), machs(on(3, 1, 0, 0), on(17, 0, 1, 0)), jump(0), in...).expect(t, failed(21, 1, 4+4+2, 3))
	situationOf(instrs(neg), machs(on(3, 0, 0, 0)), ret(1), in...).ending(ret(1), ret(1)).expect(t, accepted(1, 4+4+3, 3, p(0, 0), p(1, 2)))
}

// P14.1: copies come before the moves of their row, both in their order, and moves before the instruction. Nothing becomes unknown by a copy or a move to itself, which has steps nevertheless.
func TestRows(t *testing.T) {
	in := set(p(0, 0), p(1, 1), p(1, 2))
	for k, x := range []struct {
		code []api.Instr
		mach []api.Mach
		want Result
	}{
		{instrs(copyOf(1, 0)), nil, accepted(0, 4, 3, p(0, 0), p(1, 0))},
		{instrs(copyOf(0, 1)), nil, accepted(0, 4, 4, p(0, 1), p(0, 2), p(1, 1), p(1, 2))},
		{nil, machs(move(2, 0)), accepted(1, 4, 3, p(0, 0), p(0, 2), p(1, 1))},
		// The sets of the other orders have other sizes, or are different.
		{instrs(copyOf(1, 0)), machs(move(2, 0)), accepted(1, 4+3, 4, p(0, 0), p(0, 2), p(1, 0), p(1, 2))},
		{instrs(copyOf(1, 0), copyOf(2, 1)), nil, accepted(0, 4+3, 3, p(0, 0), p(1, 0), p(2, 0))},
		{instrs(copyOf(2, 1), copyOf(1, 0)), nil, accepted(0, 4+6, 5, p(0, 0), p(1, 0), p(2, 1), p(2, 2))},
		{nil, machs(move(1, 0), move(3, 1)), accepted(2, 4+4, 4, p(0, 0), p(0, 1), p(0, 3), p(1, 2))},
		{nil, machs(move(3, 1), move(1, 0)), accepted(2, 4+5, 4, p(0, 0), p(0, 1), p(1, 2), p(1, 3))},
		{instrs(copyOf(0, 1), instr(17, 0, 0, 0)), machs(move(4, 1), on(17, 0, 2, 0)), accepted(2, 4+5+7, 6, p(0, 1), p(0, 2), p(0, 4), p(1, 1), p(1, 2), p(1, 4))},
		// What follows an instruction belongs to the next row.
		{instrs(instr(17, 0, 0, 0), copyOf(1, 0)), machs(on(17, 0, 0, 0), move(0, 9)), accepted(2, 4+4+3, 3)},
		{instrs(instr(17, 0, 1, 0), copyOf(1, 0)), machs(on(17, 0, 0, 0)), failed(21, 0, 4, 3)},
		{instrs(instr(17, 0, 0, 0)), machs(on(17, 0, 1, 0), move(2, 0)), failed(21, 0, 4, 3)},
		{instrs(copyOf(1, 1), copyOf(5, 5)), machs(move(2, 2), move(8, 8), move(1, 1)), accepted(3, 5*4, 3, in...)},
	} {
		t.Log("case", k)
		situationOf(x.code, x.mach, jump(0), in...).expect(t, x.want)
	}
}

// P14.1, P14.2, P14.3: each size limit for operations that add pairs.
func TestGrowth(t *testing.T) {
	code := instrs(copyOf(1, 0), instr(1, 2, 0, 0), instr(17, 0, 2, 0), copyOf(3, 2), copyOf(4, 3))
	mach := machs(move(3, 1), on(1, 0, 0, 0), on(17, 0, 0, 0), move(5, 1), move(7, 3), move(2, 0))
	x := situationOf(code, mach, jump(0), p(0, 1))
	// The invariant has 1 pair; there are 2 after the copy, 4 after the move, 5 after the definition, 6 and 7 after the copies, and 9, 11 and 14 after the moves.
	out := set(p(0, 1), p(0, 3), p(0, 5), p(0, 7), p(1, 1), p(1, 3), p(1, 5), p(1, 7), p(2, 0), p(2, 2), p(3, 0), p(3, 2), p(4, 0), p(4, 2))
	x.expect(t, accepted(6, 2+3+5+6+6+7+8+10+12, 14, out...))
	for most, want := range map[int]Result{
		math.MinInt: failed(24, 0, 0, 1), -1: failed(24, 0, 0, 1), 0: failed(24, 0, 0, 1),
		1:  failed(24, 0, 2, 2),
		2:  failed(24, 0, 2+3, 4),
		3:  failed(24, 0, 2+3, 4),
		4:  failed(24, 1, 2+3+5, 5),
		5:  failed(24, 3, 2+3+5+6+6, 6),
		6:  failed(24, 3, 2+3+5+6+6+7, 7),
		7:  failed(24, 3, 2+3+5+6+6+7+8, 9),
		8:  failed(24, 3, 2+3+5+6+6+7+8, 9),
		9:  failed(24, 4, 2+3+5+6+6+7+8+10, 11),
		10: failed(24, 4, 2+3+5+6+6+7+8+10, 11),
		11: failed(24, 5, 2+3+5+6+6+7+8+10+12, 14),
		13: failed(24, 5, 2+3+5+6+6+7+8+10+12, 14),
		14: accepted(6, 2+3+5+6+6+7+8+10+12, 14, out...), math.MaxInt: accepted(6, 2+3+5+6+6+7+8+10+12, 14, out...),
	} {
		x.with(most).expect(t, want)
	}
}

// P14.2: the index of a copy after which a set is too large is where its row begins in the allocated block.
func TestGrowthOfCopies(t *testing.T) {
	emits, emitted := instr(17, 0, 0, 0), on(17, 0, 0, 0)
	for k, x := range []struct {
		code []api.Instr
		mach []api.Mach
		at   int
	}{
		{instrs(copyOf(1, 0)), nil, 0}, {instrs(copyOf(1, 0)), machs(move(0, 0), move(0, 0)), 0}, {instrs(copyOf(0, 0), copyOf(0, 0), copyOf(1, 0)), machs(move(0, 0)), 0},
		{instrs(copyOf(1, 0), emits), machs(move(0, 0), emitted), 0}, {instrs(emits, copyOf(1, 0)), machs(emitted), 1}, {instrs(emits, copyOf(1, 0)), machs(move(0, 0), emitted), 2},
		{instrs(emits, copyOf(1, 0)), machs(move(0, 0), emitted, move(0, 0), move(0, 0)), 2}, {instrs(emits, copyOf(1, 0), emits), machs(emitted, emitted), 1}, {instrs(copyOf(0, 0), emits, emits, copyOf(0, 0), copyOf(1, 0), emits), machs(emitted, move(0, 0), emitted, move(0, 0), emitted), 3},
	} {
		if r := situationOf(x.code, x.mach, jump(0), p(0, 0)).with(1).check(); r.Err != 24 || r.At != x.at || r.Largest != 2 || r.Out != nil {
			t.Errorf("case %d: %+v, want index %d", k, r, x.at)
		}
	}
}

// P14.3: the largest set is not the last one.
func TestLargest(t *testing.T) {
	in := set(p(0, 0), p(0, 2), p(0, 4))
	situationOf(instrs(instr(1, 0, 0, 0)), machs(on(1, 0, 0, 0)), jump(0), in...).with(3).expect(t, accepted(1, 4, 3, p(0, 0)))
	situationOf(instrs(copyOf(1, 0), copyOf(1, 2), copyOf(0, 2)), nil, jump(0), in...).with(6).expect(t, accepted(0, 4+7+4, 6))
	situationOf(instrs(copyOf(1, 0), copyOf(1, 2), copyOf(0, 2)), nil, ret(0), in...).with(6).expect(t, failed(21, 0, 4+7+4+1, 6))
	situationOf(nil, machs(move(0, 8), move(2, 8), move(4, 8), move(6, 8)), jump(0), in...).with(3).expect(t, accepted(4, 4+3+2+1, 3))
}

// P14.1, P14.2, P14.3: blocks that do not correspond.
func TestAlignment(t *testing.T) {
	add, sub := instr(5, 0, 0, 0), instr(6, 0, 0, 0)
	three, four := api.Instr{Op: 1, Imm: 3}, api.Mach{Op: 1, Imm: 4}
	for k, x := range []struct {
		code []api.Instr
		mach []api.Mach
		at   int
	}{
		{instrs(add), nil, 0}, {nil, machs(on(5, 0, 0, 0)), 0}, {instrs(add), machs(on(6, 0, 0, 0)), 0}, {instrs(three), machs(four), 0}, {instrs(add), machs(move(0, 0), move(0, 0)), 2}, {instrs(copyOf(0, 0)), machs(move(0, 0), on(5, 0, 0, 0)), 1},
		{instrs(add, sub), machs(on(5, 0, 0, 0), on(5, 0, 0, 0)), 1}, {instrs(add, sub), machs(on(6, 0, 0, 0), on(5, 0, 0, 0)), 0}, {instrs(add, sub), machs(move(0, 0), on(5, 0, 0, 0), move(0, 0)), 3}, {instrs(add), machs(on(5, 0, 0, 0), move(0, 0), on(5, 0, 0, 0)), 2},
	} {
		t.Log("case", k)
		y := situationOf(x.code, x.mach, jump(0), p(0, 0), p(0, 3))
		y.expect(t, failed(20, x.at, 0, 2))
		// Terminators that do not correspond, or a use that fails, come later, and a size limit comes first.
		y.ending(jump(0), jump(1)).expect(t, failed(20, x.at, 0, 2))
		y.ending(ret(9), ret(9)).with(2).expect(t, failed(20, x.at, 0, 2))
		y.with(1).expect(t, failed(24, 0, 0, 2))
	}
}

// P14.1, P14.2, P14.3: terminators that do not correspond, also where a use fails or a set grows before.
func TestTerminators(t *testing.T) {
	emits := instrs(instr(17, 0, 0, 0))
	for _, mach := range [][]api.Mach{{on(17, 0, 0, 0)}, {on(17, 0, 9, 0)}, {move(4, 0), on(17, 0, 0, 0), move(8, 4)}} {
		x := situationOf(emits, mach, jump(0), p(0, 0)).with(1)
		for _, c := range []struct{ b, m api.Term }{
			{jump(0), jump(1)}, {jump(1), ret(0)}, {ret(0), jump(0)}, {jump(1), branch(0, 1, 0)}, {branch(0, 1, 2), branch(0, 2, 1)}, {branch(0, 1, 2), branch(0, 1, 1)}, {branch(0, 0, 0), ret(0)}, {branch(0, 3, 2), branch(0, 2, 2)}, {ret(0), branch(0, 0, 0)},
		} {
			x.ending(c.b, c.m).expect(t, failed(20, len(mach), 0, 1))
			x.ending(c.b, c.m).with(0).expect(t, failed(24, 0, 0, 1))
		}
	}
}

// P14.1: the first error in the order of the check, where several apply.
func TestFirstError(t *testing.T) {
	uses, grows := instr(17, 0, 7, 0), instr(1, 1, 0, 0)
	one := p(0, 0)
	situationOf(instrs(uses, grows), machs(on(17, 0, 0, 0), on(1, 1, 0, 0)), jump(0), one).with(1).expect(t, failed(21, 0, 2, 1))
	situationOf(instrs(grows, uses), machs(on(1, 1, 0, 0), on(17, 0, 0, 0)), jump(0), one).with(1).expect(t, failed(24, 0, 2, 2))
	situationOf(instrs(uses), machs(move(2, 0), on(17, 0, 0, 0)), jump(0), one).with(1).expect(t, failed(24, 0, 2, 2))
	situationOf(instrs(uses), machs(on(17, 0, 0, 0), move(2, 0)), jump(0), one).with(1).expect(t, failed(21, 0, 2, 1))
	situationOf(instrs(copyOf(1, 0), uses), machs(move(2, 0), on(17, 0, 0, 0)), jump(0), one).with(1).expect(t, failed(24, 0, 2, 2))
	situationOf(instrs(instr(3, 1, 7, 0)), machs(on(3, 1, 0, 0)), jump(0), one).with(1).expect(t, failed(21, 0, 2, 1))
	situationOf(instrs(grows), machs(on(1, 1, 0, 0)), ret(7), one).with(1).expect(t, failed(24, 0, 2, 2))
	situationOf(instrs(uses), machs(on(17, 0, 0, 0)), ret(7), one).with(0).expect(t, failed(24, 0, 0, 1))
}

// P14.1, P14.3: as many pairs and instructions as certificates may have, and more steps than 32 bits can count.
func TestLarge(t *testing.T) {
	const n = 1 << 20
	in, code, mach := make([]api.Pair, n), make([]api.Instr, n), make([]api.Mach, n)
	for k := range n {
		in[k], code[k], mach[k] = p(k, 2), instr(17, 0, k, 0), on(17, 0, 1, 0)
	}
	x := situationOf(code, mach, jump(0), in...).with(n)
	x.expect(t, accepted(n, n*(n+1), n, in...))
	x.ending(ret(n-1), ret(1)).expect(t, accepted(n, (n+1)*(n+1), n, in...))
	x.with(n-1).expect(t, failed(24, 0, 0, n))
	mach[n-1].A = 2
	x.expect(t, failed(21, n-1, n*(n+1), n))
	mach[n-1] = move(4, 2)
	x.expect(t, failed(20, n, 0, n))
	x.b.Code = code[:n-1]
	x.expect(t, failed(24, n-1, n*(n+1), 2*n))
	x.in = in[:n/2]
	x.b.Code, x.m.Code = code[:n/2], append(slices.Clone(mach[:n/2]), move(4, 2))
	var both []api.Pair
	for k := range n / 2 {
		both = append(both, p(k, 2), p(k, 4))
	}
	x.expect(t, accepted(n/2+1, (n/2+1)*(n/2+1), n, both...))
}
