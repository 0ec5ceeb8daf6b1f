package execute

import (
	"math"
	"reflect"
	"slices"
	"testing"

	"regcert/alu"
	"regcert/api"
	"regcert/machine"
	"regcert/testkit"
)

const (
	least = math.MinInt64
	most  = math.MaxInt64
)

// Opcodes, kinds and locations are written as numbers in all tests, so that their constants and definitions are compared too.

// op returns the instruction with the opcode and these fields.
func op(op, d, a, b int) api.Mach {
	return api.Mach{Op: op, D: d, A: a, B: b}
}

// constant returns the instruction that stores imm in register d.
func constant(d int, imm int64) api.Mach {
	return api.Mach{Op: 1, D: d, Imm: imm}
}

// emit returns the instruction that emits register a.
func emit(a int) api.Mach {
	return api.Mach{Op: 17, A: a}
}

// load returns the move from slot s to register r.
func load(r, s int) api.Mach {
	return api.Mach{Op: 18, Dst: api.Loc(2 * r), Src: api.Loc(2*s + 1)}
}

// store returns the move from register r to slot s.
func store(s, r int) api.Mach {
	return api.Mach{Op: 18, Dst: api.Loc(2*s + 1), Src: api.Loc(2 * r)}
}

// move returns the move from register a to register d.
func move(d, a int) api.Mach {
	return api.Mach{Op: 18, Dst: api.Loc(2 * d), Src: api.Loc(2 * a)}
}

func jump(to int) api.Term             { return api.Term{Kind: 1, To: to} }
func branch(a, to, other int) api.Term { return api.Term{Kind: 2, A: a, To: to, Else: other} }
func ret(a int) api.Term               { return api.Term{Kind: 3, A: a} }

// block returns the block with this code and terminator.
func block(t api.Term, code ...api.Mach) api.MBlock {
	return api.MBlock{Code: code, Term: t}
}

// function returns the function with these blocks, which must be valid.
func function(t *testing.T, args, regs, slots int, blocks ...api.MBlock) api.MFunc {
	t.Helper()
	f := api.MFunc{Args: args, Regs: regs, Slots: slots, Blocks: blocks}
	if err := machine.Check(f); err != api.OK {
		t.Fatalf("the test's function %+v is not valid: error %d", f, err)
	}
	return f
}

// mustStart returns the initial run.
func mustStart(t *testing.T, f api.MFunc, args ...int64) api.Run {
	t.Helper()
	r, err := Start(f, args)
	if err != api.OK {
		t.Fatalf("Start of %+v for %v: error %d", f, args, err)
	}
	return r
}

// mustExec returns the run for this fuel.
func mustExec(t *testing.T, f api.MFunc, fuel int, args ...int64) api.Run {
	t.Helper()
	r, err := Exec(f, args, fuel)
	if err != api.OK {
		t.Fatalf("Exec of %+v for %v: error %d", f, args, err)
	}
	return r
}

// checkRun compares two runs.
func checkRun(t *testing.T, what string, r, want api.Run) {
	t.Helper()
	if !testkit.SameRun(r, want) {
		t.Errorf("%s: %+v, want %+v", what, r, want)
	}
}

// The example of the chapter, and the one of DOC.md with its spill-everything version.
func TestExamples(t *testing.T) {
	f := function(t, 1, 1, 1, block(ret(0), load(0, 0)))
	checkRun(t, "fuel 0", mustExec(t, f, 0, 5), api.Run{Regs: []int64{0}, Slots: []int64{5}})
	checkRun(t, "fuel 1", mustExec(t, f, 1, 5), api.Run{At: 1, Regs: []int64{5}, Slots: []int64{5}, Steps: 1})
	for _, fuel := range []int{2, 3, 100} {
		checkRun(t, "more fuel", mustExec(t, f, fuel, 5), api.Run{State: 1, At: 1, Value: 5, Regs: []int64{5}, Slots: []int64{5}, Steps: 2})
	}
	neg := function(t, 1, 1, 2, block(ret(0), load(0, 0), op(3, 0, 0, 0), store(1, 0), load(0, 1)))
	checkRun(t, "neg", mustExec(t, neg, 9, 5), api.Run{State: 1, At: 4, Value: -5, Regs: []int64{-5}, Slots: []int64{5, -5}, Steps: 5})
	div := function(t, 1, 2, 1, block(ret(0), load(0, 0), op(8, 0, 0, 1)))
	checkRun(t, "division by 0", mustExec(t, div, 9, 5), api.Run{State: 2, At: 1, Regs: []int64{5, 0}, Slots: []int64{5}, Steps: 1})
}

// P10.1: the initial run, with the arguments in the slots, and the number of arguments; P10.2: the same error.
func TestStart(t *testing.T) {
	for _, x := range []struct {
		args, regs, slots int
		values            []int64
		wantRegs, want    []int64
		err               api.Errno
	}{
		{0, 1, 0, nil, []int64{0}, nil, 0}, {0, 1, 0, []int64{}, []int64{0}, nil, 0}, {0, 3, 2, nil, []int64{0, 0, 0}, []int64{0, 0}, 0},
		{1, 1, 1, []int64{7}, []int64{0}, []int64{7}, 0}, {1, 1, 4, []int64{-7}, []int64{0}, []int64{-7, 0, 0, 0}, 0}, {2, 3, 3, []int64{least, most}, []int64{0, 0, 0}, []int64{least, most, 0}, 0}, {3, 2, 3, []int64{0, 1, 2}, []int64{0, 0}, []int64{0, 1, 2}, 0},
		// More arguments than registers.
		{4, 1, 5, []int64{4, 3, 2, 1}, []int64{0}, []int64{4, 3, 2, 1, 0}, 0},
		// Too few or too many, also where there are enough slots or registers.
		{0, 1, 0, []int64{7}, nil, nil, api.ErrArg}, {0, 1, 1, []int64{7}, nil, nil, api.ErrArg}, {1, 1, 1, nil, nil, nil, api.ErrArg}, {1, 1, 1, []int64{}, nil, nil, api.ErrArg}, {1, 2, 4, []int64{1, 2}, nil, nil, api.ErrArg}, {2, 1, 4, []int64{1}, nil, nil, api.ErrArg}, {2, 4, 4, []int64{1, 2, 3, 4}, nil, nil, api.ErrArg}, {3, 4, 3, []int64{1, 2, 3, 4}, nil, nil, api.ErrArg},
	} {
		f := function(t, x.args, x.regs, x.slots, block(ret(0)))
		r, err := Start(f, x.values)
		if want := (api.Run{Regs: x.wantRegs, Slots: x.want}); err != x.err || !testkit.SameRun(r, want) {
			t.Errorf("Start of a function with %d arguments, %d registers and %d slots for %v: %+v, %d, want %+v, %d", x.args, x.regs, x.slots, x.values, r, err, want, x.err)
		}
		for _, fuel := range []int{math.MinInt, -1, 0, 1, 9, math.MaxInt} {
			r, err := Exec(f, x.values, fuel)
			if err != x.err || err != api.OK && !testkit.SameRun(r, api.Run{}) {
				t.Errorf("Exec of a function with %d arguments, %d registers and %d slots for %v: %+v, %d, want the error %d", x.args, x.regs, x.slots, x.values, r, err, x.err)
			}
		}
	}
}

// P10.1, P10.2: functions without registers or slots.
func TestNoLocations(t *testing.T) {
	none := function(t, 0, 0, 0, block(jump(1)), block(jump(0)))
	checkRun(t, "no locations", mustStart(t, none), api.Run{})
	checkRun(t, "no locations", mustExec(t, none, 9), api.Run{Block: 1, Steps: 9})
	if r, err := Start(none, []int64{1}); err != api.ErrArg || !testkit.SameRun(r, api.Run{}) {
		t.Errorf("no locations: %+v, %d", r, err)
	}
	noRegs := function(t, 1, 0, 2, block(jump(1)), block(jump(0)))
	checkRun(t, "no registers", mustExec(t, noRegs, 8, 5), api.Run{Slots: []int64{5, 0}, Steps: 8})
	noSlots := function(t, 0, 2, 0, block(ret(1), constant(0, 5), move(1, 0)))
	checkRun(t, "no slots", mustExec(t, noSlots, 8), api.Run{State: 1, At: 2, Value: 5, Regs: []int64{5, 5}, Steps: 3})
}

// P10.1, P10.2: the most registers, slots and arguments.
func TestMostLocations(t *testing.T) {
	const n = 1 << 20
	f := function(t, n, n, n, block(ret(n-1), load(n-1, n-1), load(n-2, n-2), op(6, n-2, n-1, n-2), store(n-2, n-2)))
	args := make([]int64, n)
	for k := range args {
		args[k] = 2 * int64(k)
	}
	want := api.Run{State: 1, At: 4, Value: 2*n - 2, Regs: make([]int64, n), Slots: slices.Clone(args), Steps: 5}
	want.Regs[n-1], want.Regs[n-2], want.Slots[n-2] = 2*n-2, 2, 2
	r, err := Exec(f, args, 9)
	if err != api.OK || !testkit.SameRun(r, want) {
		t.Errorf("most locations: value %d, error %d", r.Value, err)
	}
	for l, v := range map[api.Loc]int64{2*n - 1: 2*n - 2, 2*n - 2: 2*n - 2, 2*n - 3: 2, 2*n - 4: 2, 2*n - 5: 2*n - 6, 2*n - 6: 0, 0: 0, 1: 0, 3: 2} {
		if got := Read(r, l); got != v {
			t.Errorf("most locations: Read of %d = %d, want %d", l, got, v)
		}
	}
}

// prepared returns the function whose only block has the instructions code behind those that set the registers to 7, -2, 40 and 0, its run before code, and copies of the values of the registers and slots there. The slots are 5, -6, 7 and 0.
func prepared(t *testing.T, code ...api.Mach) (f api.MFunc, r api.Run, regs, slots []int64) {
	t.Helper()
	code = append([]api.Mach{load(0, 2), constant(1, -2), constant(2, 40)}, code...)
	f = function(t, 3, 4, 4, block(ret(0), code...))
	r = mustExec(t, f, 3, 5, -6, 7)
	regs, slots = []int64{7, -2, 40, 0}, []int64{5, -6, 7, 0}
	checkRun(t, "prepared run", r, api.Run{At: 3, Regs: regs, Slots: slots, Steps: 3})
	return f, r, regs, slots
}

// P10.1: a move between any two locations changes its destination only.
func TestMove(t *testing.T) {
	for dst := range api.Loc(8) {
		for src := range api.Loc(8) {
			if dst%2 == 1 && src%2 == 1 {
				continue
			}
			f, r, regs, slots := prepared(t, api.Mach{Op: 18, Dst: dst, Src: src})
			v := []int64{7, 5, -2, -6, 40, 7, 0, 0}[src]
			if dst%2 == 1 {
				slots[dst/2] = v
			} else {
				regs[dst/2] = v
			}
			next, want := Step(f, r), api.Run{At: 4, Regs: regs, Slots: slots, Steps: 4}
			if !testkit.SameRun(next, want) {
				t.Errorf("move from %d to %d: %+v, want %+v", src, dst, next, want)
			}
			if Read(next, dst) != v || Read(next, src) != v {
				t.Errorf("move from %d to %d: reads %d and %d, want %d", src, dst, Read(next, src), Read(next, dst), v)
			}
		}
	}
}

// P10.1: Read of each location of a run, by the definition of layer 4.
func TestRead(t *testing.T) {
	f, r, _, _ := prepared(t, store(3, 1), constant(0, least), move(3, 2))
	for k, want := range [][]int64{{7, 5, -2, -6, 40, 7, 0, 0}, {7, 5, -2, -6, 40, 7, 0, -2}, {least, 5, -2, -6, 40, 7, 0, -2}, {least, 5, -2, -6, 40, 7, 40, -2}} {
		for l, v := range want {
			if got := Read(r, api.Loc(l)); got != v {
				t.Errorf("after %d steps: Read of %d = %d, want %d", k, l, got, v)
			}
		}
		r = Step(f, r)
	}
	// One kind may have more locations than the other one, or there may be none.
	r = api.Run{Regs: []int64{1}, Slots: []int64{2, 3, most}}
	for l, v := range map[api.Loc]int64{0: 1, 1: 2, 3: 3, 5: most} {
		if got := Read(r, l); got != v {
			t.Errorf("Read of %d = %d, want %d", l, got, v)
		}
	}
	if a, b := Read(api.Run{Regs: []int64{4, 5}}, 2), Read(api.Run{Slots: []int64{6, 7}}, 3); a != 5 || b != 7 {
		t.Errorf("Read of the last locations: %d and %d", a, b)
	}
}

// P10.1: one step of each instruction, for the registers 7, -2, 40 and 0.
func TestInstructions(t *testing.T) {
	for _, x := range []struct {
		i    api.Mach
		want []int64
	}{
		{constant(3, 9), []int64{7, -2, 40, 9}}, {constant(0, least), []int64{least, -2, 40, 0}}, {constant(1, 0), []int64{7, 0, 40, 0}},
		{op(3, 3, 0, 0), []int64{7, -2, 40, -7}}, {op(3, 2, 2, 0), []int64{7, -2, -40, 0}}, {op(4, 3, 0, 0), []int64{7, -2, 40, -8}}, {op(4, 0, 1, 0), []int64{1, -2, 40, 0}},
		// The operands are A and B, in this order, also where the destination is one of them.
		{op(5, 3, 0, 1), []int64{7, -2, 40, 5}}, {op(5, 2, 2, 2), []int64{7, -2, 80, 0}}, {op(6, 3, 0, 1), []int64{7, -2, 40, 9}}, {op(6, 3, 1, 0), []int64{7, -2, 40, -9}}, {op(6, 0, 0, 1), []int64{9, -2, 40, 0}}, {op(6, 1, 0, 1), []int64{7, 9, 40, 0}}, {op(7, 3, 0, 1), []int64{7, -2, 40, -14}},
		{op(8, 3, 2, 0), []int64{7, -2, 40, 5}}, {op(8, 3, 0, 1), []int64{7, -2, 40, -3}}, {op(8, 1, 3, 2), []int64{7, 0, 40, 0}}, {op(9, 2, 2, 0), []int64{7, -2, 5, 0}}, {op(9, 3, 0, 2), []int64{7, -2, 40, 7}},
		{op(10, 3, 0, 1), []int64{7, -2, 40, 6}}, {op(11, 3, 0, 1), []int64{7, -2, 40, -1}}, {op(12, 3, 0, 1), []int64{7, -2, 40, -7}}, {op(12, 0, 0, 0), []int64{0, -2, 40, 0}},
		{op(13, 3, 0, 2), []int64{7, -2, 40, 7 << 40}}, {op(13, 3, 2, 0), []int64{7, -2, 40, 5120}}, {op(14, 3, 1, 0), []int64{7, -2, 40, -1}}, {op(14, 3, 2, 0), []int64{7, -2, 40, 0}},
		{op(15, 3, 0, 1), []int64{7, -2, 40, 0}}, {op(15, 3, 1, 1), []int64{7, -2, 40, 1}}, {op(16, 3, 1, 0), []int64{7, -2, 40, 1}}, {op(16, 3, 0, 1), []int64{7, -2, 40, 0}},
	} {
		f, r, _, slots := prepared(t, x.i)
		next, want := Step(f, r), api.Run{At: 4, Regs: x.want, Slots: slots, Steps: 4}
		if !testkit.SameRun(next, want) {
			t.Errorf("%+v: %+v, want %+v", x.i, next, want)
		}
	}
	for a, v := range []int64{7, -2, 40, 0} {
		f, r, regs, slots := prepared(t, emit(a))
		checkRun(t, "emit", Step(f, r), api.Run{At: 4, Regs: regs, Slots: slots, Trace: []int64{v}, Steps: 4})
	}
}

// P10.1: a run that is stuck has changed in nothing else, and has no further steps.
func TestStuck(t *testing.T) {
	for _, i := range []api.Mach{op(8, 2, 0, 3), op(9, 2, 1, 3), op(8, 0, 0, 3), op(9, 1, 1, 3), op(8, 3, 2, 3), op(9, 3, 3, 3), op(8, 3, 3, 3)} {
		// Before it, there is an instruction that emits, and behind it one that would emit or move.
		for _, behind := range []api.Mach{emit(1), store(0, 1)} {
			f, r, regs, slots := prepared(t, emit(0), i, behind)
			want := api.Run{At: 4, Regs: regs, Slots: slots, Trace: []int64{7}, Steps: 4}
			r = Step(f, r)
			checkRun(t, "before", r, want)
			r = Step(f, r)
			want.State = 2
			checkRun(t, "stuck", r, want)
			checkRun(t, "step after that", Step(f, r), want)
			for _, fuel := range []int{5, 6, 1000, math.MaxInt} {
				checkRun(t, "Exec", mustExec(t, f, fuel, 5, -6, 7), want)
			}
		}
	}
}

// P10.1: a step of each terminator in a block with one instruction, where the registers are 5, -1 and 0, and the slots 0 and 8.
func TestTerminators(t *testing.T) {
	regs, slots := []int64{5, -1, 0}, []int64{0, 8}
	for _, x := range []struct {
		t    api.Term
		want api.Run
	}{
		{jump(0), api.Run{Block: 0}}, {jump(1), api.Run{Block: 1}}, {jump(3), api.Run{Block: 3}},
		{branch(0, 1, 2), api.Run{Block: 1}}, {branch(1, 3, 2), api.Run{Block: 3}}, {branch(2, 1, 2), api.Run{Block: 2}}, {branch(2, 3, 0), api.Run{Block: 0}}, {branch(0, 0, 3), api.Run{Block: 0}}, {branch(0, 2, 2), api.Run{Block: 2}}, {branch(2, 2, 2), api.Run{Block: 2}},
		{ret(0), api.Run{State: 1, Block: 1, At: 1, Value: 5}}, {ret(1), api.Run{State: 1, Block: 1, At: 1, Value: -1}}, {ret(2), api.Run{State: 1, Block: 1, At: 1}},
	} {
		f := function(t, 2, 3, 2, block(jump(1), constant(0, 5)), block(x.t, constant(1, -1)), block(ret(0)), block(ret(0), emit(0)))
		before := mustExec(t, f, 3, 0, 8)
		checkRun(t, "before", before, api.Run{Block: 1, At: 1, Regs: regs, Slots: slots, Steps: 3})
		r := Step(f, before)
		x.want.Regs, x.want.Slots, x.want.Steps = regs, slots, 4
		if !testkit.SameRun(r, x.want) {
			t.Errorf("%+v: %+v, want %+v", x.t, r, x.want)
		}
		if again := Step(f, r); r.State == 1 && !testkit.SameRun(again, r) {
			t.Errorf("%+v: step from %+v to %+v", x.t, r, again)
		}
	}
	// All values except 0 are truths.
	f := function(t, 1, 1, 1, block(branch(0, 1, 2), load(0, 0)), block(ret(0)), block(ret(0)))
	for _, v := range []int64{1, -1, 2, 1 << 8, 1 << 32, 1 << 62, least, most} {
		checkRun(t, "branch", mustExec(t, f, 2, v), api.Run{Block: 1, Regs: []int64{v}, Slots: []int64{v}, Steps: 2})
	}
	checkRun(t, "branch", mustExec(t, f, 2, 0), api.Run{Block: 2, Regs: []int64{0}, Slots: []int64{0}, Steps: 2})
}

// P10.1, P10.2: each run on the way of a loop with two passes, whose counter and sum are in slots.
func TestEachStep(t *testing.T) {
	f := function(t, 1, 2, 2,
		block(branch(0, 1, 2), load(0, 0)),
		block(jump(0), load(1, 1), op(5, 1, 1, 0), store(1, 1), constant(1, 1), op(6, 1, 0, 1), store(0, 1)),
		block(ret(1), load(1, 1), emit(1)))
	want := []api.Run{
		{Block: 0, At: 0, Regs: []int64{0, 0}, Slots: []int64{2, 0}},
		{Block: 0, At: 1, Regs: []int64{2, 0}, Slots: []int64{2, 0}},
		{Block: 1, At: 0, Regs: []int64{2, 0}, Slots: []int64{2, 0}},
		{Block: 1, At: 1, Regs: []int64{2, 0}, Slots: []int64{2, 0}},
		{Block: 1, At: 2, Regs: []int64{2, 2}, Slots: []int64{2, 0}},
		{Block: 1, At: 3, Regs: []int64{2, 2}, Slots: []int64{2, 2}},
		{Block: 1, At: 4, Regs: []int64{2, 1}, Slots: []int64{2, 2}},
		{Block: 1, At: 5, Regs: []int64{2, 1}, Slots: []int64{2, 2}},
		{Block: 1, At: 6, Regs: []int64{2, 1}, Slots: []int64{1, 2}},
		{Block: 0, At: 0, Regs: []int64{2, 1}, Slots: []int64{1, 2}},
		{Block: 0, At: 1, Regs: []int64{1, 1}, Slots: []int64{1, 2}},
		{Block: 1, At: 0, Regs: []int64{1, 1}, Slots: []int64{1, 2}},
		{Block: 1, At: 1, Regs: []int64{1, 2}, Slots: []int64{1, 2}},
		{Block: 1, At: 2, Regs: []int64{1, 3}, Slots: []int64{1, 2}},
		{Block: 1, At: 3, Regs: []int64{1, 3}, Slots: []int64{1, 3}},
		{Block: 1, At: 4, Regs: []int64{1, 1}, Slots: []int64{1, 3}},
		{Block: 1, At: 5, Regs: []int64{1, 0}, Slots: []int64{1, 3}},
		{Block: 1, At: 6, Regs: []int64{1, 0}, Slots: []int64{0, 3}},
		{Block: 0, At: 0, Regs: []int64{1, 0}, Slots: []int64{0, 3}},
		{Block: 0, At: 1, Regs: []int64{0, 0}, Slots: []int64{0, 3}},
		{Block: 2, At: 0, Regs: []int64{0, 0}, Slots: []int64{0, 3}},
		{Block: 2, At: 1, Regs: []int64{0, 3}, Slots: []int64{0, 3}},
		{Block: 2, At: 2, Regs: []int64{0, 3}, Slots: []int64{0, 3}, Trace: []int64{3}},
		{Block: 2, At: 2, Regs: []int64{0, 3}, Slots: []int64{0, 3}, Trace: []int64{3}, State: 1, Value: 3},
	}
	r := mustStart(t, f, 2)
	for k := range want {
		want[k].Steps = k
		checkRun(t, "Step", r, want[k])
		checkRun(t, "Exec", mustExec(t, f, k, 2), want[k])
		r = Step(f, r)
	}
	checkRun(t, "Step at the end", r, want[len(want)-1])
}

// P10.2: numbers that are not a number of steps.
func TestFuel(t *testing.T) {
	f := function(t, 1, 2, 1, block(branch(0, 0, 1), load(0, 0), emit(0), constant(1, 1), op(6, 0, 0, 1), store(0, 0)), block(ret(1)))
	for _, fuel := range []int{math.MinInt, math.MinInt + 1, -1 << 32, -1 << 30, -2, -1, 0} {
		checkRun(t, "no fuel", mustExec(t, f, fuel, 2), api.Run{Regs: []int64{0, 0}, Slots: []int64{2}})
	}
	end := api.Run{State: 1, Block: 1, Value: 1, Regs: []int64{0, 1}, Slots: []int64{0}, Trace: []int64{2, 1}, Steps: 13}
	for _, fuel := range []int{13, 14, 1<<30 - 1, 1 << 30, 1<<30 + 1, 1 << 31, 1 << 32, math.MaxInt} {
		checkRun(t, "enough fuel", mustExec(t, f, fuel, 2), end)
	}
	end.State, end.Value, end.Steps = 0, 0, 12
	checkRun(t, "one step less", mustExec(t, f, 12, 2), end)
}

// P10.2: more fuel than MaxFuel. This takes 2^30 steps.
func TestMaxFuel(t *testing.T) {
	f := function(t, 0, 0, 0, block(jump(0)))
	checkRun(t, "endless loop", mustExec(t, f, 1<<30+1), api.Run{Steps: 1 << 30})
}

// P10.2: the greatest common divisor, by functions of the machine and of Go.
func TestDivisor(t *testing.T) {
	f := function(t, 2, 2, 3,
		block(branch(1, 1, 2), load(1, 1)),
		block(jump(0), load(0, 0), store(0, 1), op(9, 0, 0, 1), store(1, 0), emit(0)),
		block(ret(0), load(0, 0)))
	for a := int64(-30); a < 30; a++ {
		for b := int64(-30); b < 30; b++ {
			x, y, steps := a, b, 4
			var trace []int64
			for y != 0 {
				x, y = y, x%y
				trace = append(trace, y)
				steps += 8
			}
			r := mustExec(t, f, 1000, a, b)
			want := api.Run{State: 1, Block: 2, At: 1, Value: x, Regs: []int64{x, 0}, Slots: []int64{x, 0, 0}, Trace: trace, Steps: steps}
			if !testkit.SameRun(r, want) {
				t.Errorf("divisor of %d and %d: %+v, want %+v", a, b, r, want)
			}
		}
	}
}

// locationOf returns the values of the locations of the kind of l, and the index of l among them, by the definition of layer 4.
func locationOf(r api.Run, l api.Loc) ([]int64, int) {
	if l%2 == 1 {
		return r.Slots, int(l-1) / 2
	}
	return r.Regs, int(l) / 2
}

// readModel is Read by the definition of layer 4.
func readModel(r api.Run, l api.Loc) int64 {
	values, k := locationOf(r, l)
	return values[k]
}

// stepModel is Step by the wording of the chapters of layers 9 and 10. The results of operations are those of layer 6.
func stepModel(f api.MFunc, r api.Run) api.Run {
	next := testkit.CloneRun(r)
	code, term := f.Blocks[r.Block].Code, f.Blocks[r.Block].Term
	switch {
	case r.State != 0:
		return next
	case r.At < len(code):
		if !performModel(&next, code[r.At]) {
			next = testkit.CloneRun(r)
			next.State = 2
			return next
		}
		next.At = r.At + 1
	case term.Kind == 3:
		next.State, next.Value = 1, r.Regs[term.A]
	case term.Kind == 1 || r.Regs[term.A] != 0:
		next.Block, next.At = term.To, 0
	default:
		next.Block, next.At = term.Else, 0
	}
	next.Steps = r.Steps + 1
	return next
}

// performModel performs the instruction i, and reports whether it is not stuck.
func performModel(r *api.Run, i api.Mach) bool {
	switch i.Op {
	case 17:
		r.Trace = slices.Concat(r.Trace, []int64{r.Regs[i.A]})
		return true
	case 18:
		values, k := locationOf(*r, i.Dst)
		values[k] = readModel(*r, i.Src)
		return true
	}
	v, ok := alu.Eval(i.Op, r.Regs[i.A], r.Regs[i.B], i.Imm)
	if ok {
		r.Regs[i.D] = v
	}
	return ok
}

// checkReads compares Read with the model for all locations of r.
func checkReads(t *testing.T, r api.Run) {
	t.Helper()
	for l := range api.Loc(2 * max(len(r.Regs), len(r.Slots))) {
		if values, k := locationOf(r, l); k < len(values) && Read(r, l) != readModel(r, l) {
			t.Errorf("Read of %d = %d, want %d, in %+v", l, Read(r, l), readModel(r, l), r)
		}
	}
}

// P10.1, P10.2, P10.3: the runs of many functions, for all small amounts of fuel.
func TestRunsAsModel(t *testing.T) {
	s := testkit.Numbers(14)
	seen := map[int]int{}
	for range 4000 {
		f := s.MFunc()
		args := s.Values(f.Args)
		r := mustStart(t, f, args...)
		want := api.Run{Regs: make([]int64, f.Regs), Slots: append(slices.Clone(args), make([]int64, f.Slots-f.Args)...)}
		for fuel := range 40 {
			checkRun(t, "Step", r, want)
			checkReads(t, r)
			e := mustExec(t, f, fuel, args...)
			checkRun(t, "Exec", e, want)
			if e.Steps > fuel || e.State == 0 && e.Steps != fuel {
				t.Errorf("%d steps and state %d with fuel %d", e.Steps, e.State, fuel)
			}
			next := Step(f, r)
			if len(next.Trace) < len(r.Trace) || !slices.Equal(next.Trace[:len(r.Trace)], r.Trace) {
				t.Errorf("the trace %v is followed by %v", r.Trace, next.Trace)
			}
			r, want = next, stepModel(f, want)
		}
		seen[r.State]++
	}
	for state := range 3 {
		if seen[state] < 100 {
			t.Errorf("only %d functions have runs that end in state %d", seen[state], state)
		}
	}
}

// withRoom returns f with elements behind the ends of all slices.
func withRoom(f api.MFunc) api.MFunc {
	for k, b := range f.Blocks {
		f.Blocks[k].Code = append(b.Code, op(9, 9, 9, 9))[:len(b.Code)]
	}
	f.Blocks = append(f.Blocks, block(ret(9), emit(9)))[:len(f.Blocks)]
	return f
}

// P10.4: Start and Exec.
func TestArguments(t *testing.T) {
	s := testkit.Numbers(15)
	for range 2000 {
		f := withRoom(s.MFunc())
		args := s.Values(f.Args)
		functionBefore, argsBefore := testkit.WholeMFunc(f), testkit.WholeValues(args)
		fuel := s.Below(30)
		first, last := mustStart(t, f, args...), mustExec(t, f, fuel, args...)
		firstBefore, lastBefore := testkit.CloneRun(first), testkit.CloneRun(last)
		if !reflect.DeepEqual(testkit.WholeMFunc(f), functionBefore) || !slices.Equal(testkit.WholeValues(args), argsBefore) {
			t.Errorf("arguments have changed from %+v, %v to %+v, %v", functionBefore, argsBefore, f, args)
		}
		testkit.SpoilValues(args)
		checkRun(t, "initial run when the arguments have changed", first, firstBefore)
		checkRun(t, "last run when the arguments have changed", last, lastBefore)
		argsBefore = testkit.WholeValues(args)
		testkit.SpoilRun(first)
		checkRun(t, "last run when the initial one has changed", last, lastBefore)
		testkit.SpoilRun(last)
		if !reflect.DeepEqual(testkit.WholeMFunc(f), functionBefore) || !slices.Equal(testkit.WholeValues(args), argsBefore) {
			t.Errorf("arguments have changed from %+v, %v to %+v, %v with the result", functionBefore, argsBefore, f, args)
		}
	}
}

// wholeRun returns a copy of r with the unused capacity of its slices.
func wholeRun(r api.Run) api.Run {
	r.Regs, r.Slots, r.Trace = testkit.WholeValues(r.Regs), testkit.WholeValues(r.Slots), testkit.WholeValues(r.Trace)
	return r
}

// P10.4: Step, also if there is no step, and Read.
func TestStepArguments(t *testing.T) {
	s := testkit.Numbers(16)
	seen := map[int]bool{}
	for range 2000 {
		f := withRoom(s.MFunc())
		r := mustStart(t, f, s.Values(f.Args)...)
		for range s.Below(30) {
			r = Step(f, r)
		}
		// Behind the ends of the slices of r, there are values that must stay as they are.
		for _, values := range []*[]int64{&r.Regs, &r.Slots, &r.Trace} {
			*values = append(*values, 7, 8, 9)[:len(*values)]
		}
		seen[r.State] = true
		functionBefore, before := testkit.WholeMFunc(f), wholeRun(r)
		next, other := Step(f, r), Step(f, r)
		nextBefore := testkit.CloneRun(next)
		checkReads(t, r)
		if !reflect.DeepEqual(testkit.WholeMFunc(f), functionBefore) || !testkit.SameRun(wholeRun(r), before) {
			t.Errorf("arguments have changed to %+v, %+v", f, r)
		}
		testkit.SpoilRun(other)
		checkRun(t, "run when the result has changed", wholeRun(r), before)
		checkRun(t, "result when another one has changed", next, nextBefore)
		testkit.SpoilRun(r)
		checkRun(t, "result when the run has changed", next, nextBefore)
	}
	if len(seen) != 3 {
		t.Errorf("only the states %v", seen)
	}
}

// P10.4: no two slices of one result share memory.
func TestSlicesOfResult(t *testing.T) {
	f := function(t, 1, 1, 1, block(jump(1), load(0, 0), store(0, 0)), block(jump(1), emit(0)))
	for fuel := range 20 {
		before := mustExec(t, f, fuel, 5)
		for _, r := range []api.Run{mustStart(t, f, 5), mustExec(t, f, fuel, 5), Step(f, before)} {
			all := [][]int64{r.Regs, r.Slots, r.Trace}
			for k := range all {
				values := testkit.CloneRun(r)
				testkit.SpoilValues(all[k])
				for j, want := range [][]int64{values.Regs, values.Slots, values.Trace} {
					if j != k && !slices.Equal(all[j], want) {
						t.Errorf("slice %d has changed from %v to %v with slice %d", j, want, all[j], k)
					}
				}
			}
		}
	}
}
