package blockcheck

import (
	"reflect"
	"slices"
	"testing"

	"regcert/api"
	"regcert/execute"
	"regcert/interp"
	"regcert/machine"
	"regcert/source"
	"regcert/testkit"
	"regcert/transfer"
)

// The sizes of the functions that the blocks of this file are part of.
const (
	vregs, regs, slots, blocks = 4, 3, 4, 4
	locations                  = 7
)

// locationAt returns the location k: the machine registers come first, then the slots.
func locationAt(k int) api.Loc {
	if k < regs {
		return api.Loc(2 * k)
	}
	return api.Loc(2*(k-regs) + 1)
}

// An allocator writes an allocated version of a block, which is often correct, because it remembers what holds.
type allocator struct {
	*testkit.Numbers
	holds []api.Pair
	mach  []api.Mach
}

// move appends a move.
func (a *allocator) move(dst, src api.Loc) {
	a.mach = append(a.mach, move(dst, src))
	a.holds = transfer.Move(a.holds, dst, src)
}

// operand returns a machine register for the source register v, which it loads if v is in slots only.
func (a *allocator) operand(v int) int {
	var registers, stored []api.Loc
	for _, q := range a.holds {
		switch {
		case q.V == v && q.L%2 == 0:
			registers = append(registers, q.L)
		case q.V == v:
			stored = append(stored, q.L)
		}
	}
	if len(registers) > 0 {
		return int(registers[a.Below(len(registers))] / 2)
	}
	n := a.Below(regs)
	if len(stored) > 0 {
		a.move(api.Loc(2*n), stored[a.Below(len(stored))])
	}
	return n
}

// wander appends a valid move that nothing asks for, with some probability.
func (a *allocator) wander() {
	for a.Below(3) == 0 {
		dst, src := locationAt(a.Below(locations)), locationAt(a.Below(locations))
		if dst%2 == 0 || src%2 == 0 {
			a.move(dst, src)
		}
	}
}

// instruction appends what performs the instruction of the source block.
func (a *allocator) instruction(i api.Instr) {
	if i.Op == 2 {
		a.holds = transfer.Copy(a.holds, i.D, i.A)
		return
	}
	a.wander()
	m := api.Mach{Op: i.Op, Imm: i.Imm}
	switch i.Op {
	case 1:
		m.D = a.Below(regs)
	case 3, 4:
		m.D, m.A = a.Below(regs), a.operand(i.A)
	case 17:
		m.A = a.operand(i.A)
	default:
		m.D, m.A, m.B = a.Below(regs), a.operand(i.A), a.operand(i.B)
	}
	if i.Op != 17 {
		a.holds = transfer.Define(a.holds, i.D, api.Loc(2*m.D))
	}
	a.mach = append(a.mach, m)
}

// invariant returns a pair set in which each register is likely to be in a location.
func invariant(s *testkit.Numbers) []api.Pair {
	rate := 2 + s.Below(6)
	var l []api.Pair
	for v := range vregs {
		home := s.Below(locations)
		for k := range locations {
			if k == home && s.Below(8) > 0 || s.Below(rate) == 0 {
				l = append(l, p(v, locationAt(k)))
			}
		}
	}
	return testkit.OrderedPairs(l)
}

// similar returns the arguments of a check of valid blocks that is often accepted.
func similar(s *testkit.Numbers) situation {
	x := situation{in: invariant(s), most: 1 << 20}
	a := allocator{Numbers: s, holds: x.in}
	for range s.Below(7) {
		i := s.Instr(vregs)
		if s.Below(4) == 0 {
			i = copyOf(s.Below(vregs), s.Below(vregs))
		}
		x.b.Code = append(x.b.Code, i)
		a.instruction(i)
	}
	a.wander()
	x.b.Term = s.Term(vregs, blocks)
	x.m.Term = x.b.Term
	if x.m.Term.Kind != 1 {
		x.m.Term.A = a.operand(x.b.Term.A)
	}
	a.wander()
	x.m.Code = a.mach
	return x
}

// damage changes the arguments a little. The blocks remain valid.
func (x *situation) damage(s *testkit.Numbers) {
	n := len(x.m.Code)
	switch s.Below(7) {
	case 0:
		x.m.Code = slices.Insert(slices.Clone(x.m.Code), s.Below(n+1), s.Mach(regs, slots))
	case 1:
		x.m.Term = s.Term(regs, blocks)
	case 2:
		x.most = s.Below(12) - 1
	case 3:
		x.in = testkit.PairsOf(x.in, s.Below(1<<len(x.in)))
	case 4:
		x.b.Code = append(slices.Clone(x.b.Code), s.Instr(vregs))
	case 5:
		if n > 0 {
			k := s.Below(n)
			x.m.Code = slices.Delete(slices.Clone(x.m.Code), k, k+1)
		}
	case 6:
		if n > 0 {
			x.m.Code = slices.Clone(x.m.Code)
			x.m.Code[s.Below(n)] = s.Mach(regs, slots)
		}
	}
}

// situations calls f for many arguments, some of them damaged.
func situations(seed testkit.Numbers, n int, f func(s *testkit.Numbers, x situation)) {
	for range n {
		x := similar(&seed)
		for range max(0, seed.Below(6)-3) {
			x.damage(&seed)
		}
		f(&seed, x)
	}
}

// P14.1, P14.2, P14.3: many blocks, and each size limit for them, as by the wording.
func TestAsModel(t *testing.T) {
	seen := map[api.Errno]int{}
	situations(1, 20000, func(s *testkit.Numbers, x situation) {
		r := x.check()
		seen[r.Err]++
		x.expect(t, model(x.b, x.m, x.in, x.most))
		for most := -1; most <= r.Largest+1; most++ {
			x.with(most).expect(t, model(x.b, x.m, x.in, most))
		}
		if r.Err != api.OK && r.Out != nil {
			t.Errorf("%+v: pairs together with an error", r)
		}
	})
	for _, err := range []api.Errno{0, 20, 21, 24} {
		if seen[err] < 500 {
			t.Errorf("only %d of the results have the error %d", seen[err], err)
		}
	}
}

// functions returns valid functions with the two blocks as block 1, which begin by it with all registers and locations as arguments.
func (x situation) functions(t *testing.T) (api.Func, api.MFunc) {
	t.Helper()
	first := api.MBlock{Term: jump(1)}
	for n := range regs {
		first.Code = append(first.Code, move(api.Loc(2*n), api.Loc(2*(slots+n)+1)))
	}
	f := api.Func{Args: vregs, Regs: vregs, Blocks: []api.Block{{Term: jump(1)}, x.b, {Term: ret(0)}, {Term: ret(0)}}}
	m := api.MFunc{Args: slots + regs, Regs: regs, Slots: slots + regs, Blocks: []api.MBlock{first, x.m, {Term: ret(0)}, {Term: ret(0)}}}
	if err := source.Check(f); err != api.OK {
		t.Fatalf("%+v is not valid: error %d", f, err)
	}
	if err := machine.Check(m); err != api.OK {
		t.Fatalf("%+v is not valid: error %d", m, err)
	}
	return f, m
}

// valuesFor returns values of the registers and of the arguments of the allocated function, slots first, for which the pairs hold. Otherwise, they are different.
func valuesFor(s *testkit.Numbers, l []api.Pair) ([]int64, []int64) {
	classes := make([]int, vregs+locations)
	for k := range classes {
		classes[k] = k
	}
	for range classes {
		for _, q := range l {
			v, at := &classes[q.V], &classes[vregs+argumentOf(q.L)]
			*v, *at = min(*v, *at), min(*v, *at)
		}
	}
	values := s.Values(len(classes))
	all := make([]int64, len(classes))
	for k, class := range classes {
		all[k] = values[class]
	}
	return all[:vregs], all[vregs:]
}

// argumentOf returns the index of the argument that is in the location at the beginning of block 1.
func argumentOf(l api.Loc) int {
	if l%2 == 1 {
		return int(l-1) / 2
	}
	return slots + int(l)/2
}

// P14.4: blocks that are accepted do the same for all values for which the pairs of the invariant hold, and those of Out hold afterwards.
func TestSimulation(t *testing.T) {
	ends := map[int]int{}
	situations(2, 20000, func(s *testkit.Numbers, x situation) {
		r := x.check()
		if r.Err != api.OK {
			return
		}
		f, m := x.functions(t)
		for range 5 {
			values, arguments := valuesFor(s, x.in)
			a, _ := interp.Start(f, values)
			b, _ := execute.Start(m, arguments)
			for range 1 + len(x.b.Code) + 1 {
				a = interp.Step(f, a)
			}
			for range regs + 1 + len(x.m.Code) + 1 {
				b = execute.Step(m, b)
			}
			ends[a.State]++
			if a.State != api.Stuck {
				checkEnd(t, x, a, b, r.Out)
			}
		}
	})
	for state := range 3 {
		if ends[state] < 500 {
			t.Errorf("only %d of the runs end in state %d", ends[state], state)
		}
	}
}

// checkEnd compares the runs at the ends of the blocks.
func checkEnd(t *testing.T, x situation, a, b api.Run, out []api.Pair) {
	t.Helper()
	if a.State != b.State || a.Value != b.Value || a.Block != b.Block || !slices.Equal(a.Trace, b.Trace) {
		t.Errorf("%+v: the runs are %+v and %+v", x, a, b)
	}
	for _, q := range out {
		if a.Regs[q.V] != execute.Read(b, q.L) {
			t.Errorf("%+v: %v does not hold after the runs %+v and %+v", x, q, a, b)
		}
	}
}

// withRoom returns x with elements behind the ends of all slices.
func withRoom(x situation) situation {
	x.b.Code = append(slices.Clone(x.b.Code), instr(9, 1, 1, 1))[:len(x.b.Code)]
	x.m.Code = append(slices.Clone(x.m.Code), move(2, 2))[:len(x.m.Code)]
	x.in = append(slices.Clone(x.in), p(7, 7), p(8, 8))[:len(x.in)]
	return x
}

// whole returns a copy of x with the unused capacity of its slices.
func whole(x situation) situation {
	x.b.Code = slices.Clone(x.b.Code[:cap(x.b.Code)])
	x.m.Code = slices.Clone(x.m.Code[:cap(x.m.Code)])
	x.in = testkit.WholePairs(x.in)
	return x
}

// P14.5: arguments and their unused capacity are not modified, and results share no memory with them.
func TestMemory(t *testing.T) {
	check := func(x situation) {
		t.Helper()
		x = withRoom(x)
		before := whole(x)
		r, again := x.check(), x.check()
		if !reflect.DeepEqual(whole(x), before) {
			t.Errorf("%+v has changed to %+v", before, whole(x))
		}
		kept := r
		kept.Out = slices.Clone(r.Out)
		testkit.SpoilPairs(again.Out)
		if !reflect.DeepEqual(whole(x), before) || !same(r, kept) {
			t.Errorf("%+v has changed with the result", before)
		}
		testkit.SpoilPairs(x.in)
		if !same(r, kept) {
			t.Errorf("the result for %+v has changed with the invariant", before)
		}
	}
	situations(3, 5000, func(_ *testkit.Numbers, x situation) {
		check(x)
	})
	// Nothing happens to the invariant, or nothing changes in it.
	check(situationOf(nil, nil, jump(0), p(0, 0), p(1, 1)))
	check(situationOf(nil, nil, ret(0), p(0, 0), p(1, 1)))
	check(situationOf(instrs(copyOf(0, 0)), machs(move(0, 0)), jump(0), p(0, 0), p(1, 1)))
	check(situationOf(instrs(instr(17, 0, 0, 0)), machs(on(17, 0, 0, 0)), ret(0), p(0, 0), p(1, 1)))
}
