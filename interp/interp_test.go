package interp

import (
	"math"
	"reflect"
	"slices"
	"testing"

	"regcert/alu"
	"regcert/api"
	"regcert/source"
	"regcert/testkit"
)

const (
	least = math.MinInt64
	most  = math.MaxInt64
)

// Opcodes and kinds are written as numbers in all tests, so that their constants are compared too.

// op returns the instruction with the opcode and these fields.
func op(op, d, a, b int) api.Instr {
	return api.Instr{Op: op, D: d, A: a, B: b}
}

// constant returns the instruction that stores imm in register d.
func constant(d int, imm int64) api.Instr {
	return api.Instr{Op: 1, D: d, Imm: imm}
}

// emit returns the instruction that emits register a.
func emit(a int) api.Instr {
	return api.Instr{Op: 17, A: a}
}

func jump(to int) api.Term             { return api.Term{Kind: 1, To: to} }
func branch(a, to, other int) api.Term { return api.Term{Kind: 2, A: a, To: to, Else: other} }
func ret(a int) api.Term               { return api.Term{Kind: 3, A: a} }

// block returns the block with this code and terminator.
func block(t api.Term, code ...api.Instr) api.Block {
	return api.Block{Code: code, Term: t}
}

// function returns the function with these blocks, which must be valid.
func function(t *testing.T, args, regs int, blocks ...api.Block) api.Func {
	t.Helper()
	f := api.Func{Args: args, Regs: regs, Blocks: blocks}
	if err := source.Check(f); err != api.OK {
		t.Fatalf("the test's function %+v is not valid: error %d", f, err)
	}
	return f
}

// mustStart returns the initial run.
func mustStart(t *testing.T, f api.Func, args ...int64) api.Run {
	t.Helper()
	r, err := Start(f, args)
	if err != api.OK {
		t.Fatalf("Start of %+v for %v: error %d", f, args, err)
	}
	return r
}

// mustExec returns the run for this fuel.
func mustExec(t *testing.T, f api.Func, fuel int, args ...int64) api.Run {
	t.Helper()
	r, err := Exec(f, args, fuel)
	if err != api.OK {
		t.Fatalf("Exec of %+v for %v: error %d", f, args, err)
	}
	return r
}

// checkRun compares two runs.
func checkRun(t *testing.T, what string, r, want api.Run) {
	t.Helper()
	if !testkit.SameRun(r, want) {
		t.Errorf("%s: %+v, want %+v", what, r, want)
	}
}

// The examples of the chapter and of DOC.md.
func TestExamples(t *testing.T) {
	f := function(t, 1, 1, block(ret(0), emit(0)))
	checkRun(t, "fuel 0", mustExec(t, f, 0, 5), api.Run{Regs: []int64{5}})
	checkRun(t, "fuel 1", mustExec(t, f, 1, 5), api.Run{At: 1, Regs: []int64{5}, Trace: []int64{5}, Steps: 1})
	for _, fuel := range []int{2, 3, 100} {
		checkRun(t, "more fuel", mustExec(t, f, fuel, 5), api.Run{State: 1, At: 1, Value: 5, Regs: []int64{5}, Trace: []int64{5}, Steps: 2})
	}
	neg := function(t, 1, 2, block(ret(1), op(3, 1, 0, 0)))
	checkRun(t, "neg", mustExec(t, neg, 9, 5), api.Run{State: 1, At: 1, Value: -5, Regs: []int64{5, -5}, Steps: 2})
	div := function(t, 1, 2, block(ret(0), op(8, 0, 0, 1)))
	checkRun(t, "division by 0", mustExec(t, div, 9, 5), api.Run{State: 2, Regs: []int64{5, 0}})
}

// P9.1: the initial run, and the number of arguments; P9.2: the same error.
func TestStart(t *testing.T) {
	for _, x := range []struct {
		args, regs int
		values     []int64
		want       []int64
		err        api.Errno
	}{
		{0, 1, nil, []int64{0}, 0}, {0, 3, []int64{}, []int64{0, 0, 0}, 0},
		{1, 1, []int64{7}, []int64{7}, 0}, {1, 4, []int64{-7}, []int64{-7, 0, 0, 0}, 0}, {2, 3, []int64{least, most}, []int64{least, most, 0}, 0}, {3, 3, []int64{0, 1, 2}, []int64{0, 1, 2}, 0},
		// Too few or too many, also where there are enough registers.
		{0, 1, []int64{7}, nil, api.ErrArg}, {1, 1, nil, nil, api.ErrArg}, {1, 1, []int64{}, nil, api.ErrArg}, {1, 4, []int64{1, 2}, nil, api.ErrArg}, {2, 4, []int64{1}, nil, api.ErrArg}, {2, 4, []int64{1, 2, 3, 4}, nil, api.ErrArg}, {3, 3, []int64{1, 2, 3, 4}, nil, api.ErrArg},
	} {
		f := function(t, x.args, x.regs, block(ret(0)))
		r, err := Start(f, x.values)
		if want := (api.Run{Regs: x.want}); err != x.err || !testkit.SameRun(r, want) {
			t.Errorf("Start of a function with %d arguments and %d registers for %v: %+v, %d, want %+v, %d", x.args, x.regs, x.values, r, err, want, x.err)
		}
		for _, fuel := range []int{math.MinInt, -1, 0, 1, 9, math.MaxInt} {
			r, err := Exec(f, x.values, fuel)
			if err != x.err || err != api.OK && !testkit.SameRun(r, api.Run{}) {
				t.Errorf("Exec of a function with %d arguments and %d registers for %v: %+v, %d, want the error %d", x.args, x.regs, x.values, r, err, x.err)
			}
		}
	}
}

// P9.1, P9.2: a function without registers, and one with the most registers and arguments.
func TestNumbersOfRegisters(t *testing.T) {
	none := function(t, 0, 0, block(jump(1)), block(jump(0)))
	checkRun(t, "no registers", mustStart(t, none), api.Run{})
	checkRun(t, "no registers", mustExec(t, none, 9), api.Run{Block: 1, Steps: 9})
	if r, err := Start(none, []int64{1}); err != api.ErrArg || !testkit.SameRun(r, api.Run{}) {
		t.Errorf("no registers: %+v, %d", r, err)
	}
	const n = 1 << 20
	f := function(t, n, n, block(ret(n-1), op(6, n-2, n-1, 0)))
	args := make([]int64, n)
	for k := range args {
		args[k] = int64(k) + 1
	}
	want := api.Run{State: 1, At: 1, Value: n, Regs: slices.Clone(args), Steps: 2}
	want.Regs[n-2] = n - 1
	if r, err := Exec(f, args, 5); err != api.OK || !testkit.SameRun(r, want) {
		t.Errorf("most registers: value %d, register %d, error %d", r.Value, r.Regs[n-2], err)
	}
}

// P9.1: one step of each instruction, for the registers 7, -2, 40 and 0.
func TestInstructions(t *testing.T) {
	for _, x := range []struct {
		i    api.Instr
		want []int64
	}{
		{constant(3, 9), []int64{7, -2, 40, 9}}, {constant(0, least), []int64{least, -2, 40, 0}}, {constant(1, 0), []int64{7, 0, 40, 0}},
		{op(2, 3, 1, 0), []int64{7, -2, 40, -2}}, {op(2, 0, 3, 0), []int64{0, -2, 40, 0}}, {op(2, 1, 1, 0), []int64{7, -2, 40, 0}},
		{op(3, 3, 0, 0), []int64{7, -2, 40, -7}}, {op(4, 3, 0, 0), []int64{7, -2, 40, -8}},
		// The operands are A and B, in this order.
		{op(5, 3, 0, 1), []int64{7, -2, 40, 5}}, {op(6, 3, 0, 1), []int64{7, -2, 40, 9}}, {op(6, 3, 1, 0), []int64{7, -2, 40, -9}}, {op(7, 3, 0, 1), []int64{7, -2, 40, -14}},
		{op(8, 3, 2, 0), []int64{7, -2, 40, 5}}, {op(8, 3, 0, 1), []int64{7, -2, 40, -3}}, {op(8, 1, 3, 2), []int64{7, 0, 40, 0}}, {op(9, 3, 2, 0), []int64{7, -2, 40, 5}}, {op(9, 3, 0, 2), []int64{7, -2, 40, 7}},
		{op(10, 3, 0, 1), []int64{7, -2, 40, 6}}, {op(11, 3, 0, 1), []int64{7, -2, 40, -1}}, {op(12, 3, 0, 1), []int64{7, -2, 40, -7}},
		{op(13, 3, 0, 2), []int64{7, -2, 40, 7 << 40}}, {op(13, 3, 2, 0), []int64{7, -2, 40, 5120}}, {op(14, 3, 1, 0), []int64{7, -2, 40, -1}}, {op(14, 3, 2, 0), []int64{7, -2, 40, 0}},
		{op(15, 3, 0, 1), []int64{7, -2, 40, 0}}, {op(15, 3, 1, 1), []int64{7, -2, 40, 1}}, {op(16, 3, 1, 0), []int64{7, -2, 40, 1}}, {op(16, 3, 0, 1), []int64{7, -2, 40, 0}},
		// The destination is an operand.
		{op(3, 2, 2, 0), []int64{7, -2, -40, 0}}, {op(6, 0, 0, 1), []int64{9, -2, 40, 0}}, {op(6, 1, 0, 1), []int64{7, 9, 40, 0}}, {op(5, 2, 2, 2), []int64{7, -2, 80, 0}}, {op(12, 0, 0, 0), []int64{0, -2, 40, 0}},
	} {
		f := function(t, 3, 4, block(ret(0), x.i))
		r := Step(f, mustStart(t, f, 7, -2, 40))
		if want := (api.Run{At: 1, Regs: x.want, Steps: 1}); !testkit.SameRun(r, want) {
			t.Errorf("%+v: %+v, want %+v", x.i, r, want)
		}
	}
}

// P9.1: a run that is stuck has changed in nothing else, and has no further steps.
func TestStuck(t *testing.T) {
	for _, x := range []struct {
		i        api.Instr
		a, other int64
	}{
		{op(8, 2, 0, 1), 7, 0}, {op(9, 2, 0, 1), 7, 0}, {op(8, 0, 0, 1), least, 0}, {op(9, 1, 0, 1), -1, 0}, {op(8, 0, 1, 0), 0, 7}, {op(9, 1, 1, 0), 0, 0}, {op(8, 1, 1, 1), 7, 0},
	} {
		// Before it, there are an instruction and a jump, and behind it one that would emit.
		f := function(t, 2, 3, block(jump(1), emit(0)), block(ret(0), constant(2, 6), x.i, emit(1)))
		want := api.Run{Block: 1, At: 1, Regs: []int64{x.a, x.other, 6}, Trace: []int64{x.a}, Steps: 3}
		checkRun(t, "before", mustExec(t, f, 3, x.a, x.other), want)
		r := Step(f, mustExec(t, f, 3, x.a, x.other))
		want.State = 2
		checkRun(t, "stuck", r, want)
		checkRun(t, "step after that", Step(f, r), want)
		for _, fuel := range []int{4, 5, 1000, math.MaxInt} {
			checkRun(t, "Exec", mustExec(t, f, fuel, x.a, x.other), want)
		}
	}
}

// P9.1: a step of each terminator in a block with one instruction, where the registers are 5, -1 and 0.
func TestTerminators(t *testing.T) {
	regs := []int64{5, -1, 0}
	for _, x := range []struct {
		t    api.Term
		want api.Run
	}{
		{jump(0), api.Run{Block: 0}}, {jump(1), api.Run{Block: 1}}, {jump(3), api.Run{Block: 3}},
		{branch(0, 1, 2), api.Run{Block: 1}}, {branch(1, 3, 2), api.Run{Block: 3}}, {branch(2, 1, 2), api.Run{Block: 2}}, {branch(2, 3, 0), api.Run{Block: 0}}, {branch(0, 0, 3), api.Run{Block: 0}}, {branch(0, 2, 2), api.Run{Block: 2}}, {branch(2, 2, 2), api.Run{Block: 2}},
		{ret(0), api.Run{State: 1, At: 1, Value: 5}}, {ret(1), api.Run{State: 1, At: 1, Value: -1}}, {ret(2), api.Run{State: 1, At: 1}},
	} {
		f := function(t, 1, 3, block(x.t, constant(1, -1)), block(ret(0)), block(ret(0)), block(ret(0), emit(0)))
		before := Step(f, mustStart(t, f, 5))
		checkRun(t, "before", before, api.Run{At: 1, Regs: regs, Steps: 1})
		r := Step(f, before)
		x.want.Regs, x.want.Steps = regs, 2
		if !testkit.SameRun(r, x.want) {
			t.Errorf("%+v: %+v, want %+v", x.t, r, x.want)
		}
		if again := Step(f, r); r.State == 1 && !testkit.SameRun(again, r) {
			t.Errorf("%+v: step from %+v to %+v", x.t, r, again)
		}
	}
	// All values except 0 are truths.
	f := function(t, 1, 1, block(branch(0, 1, 2)), block(ret(0)), block(ret(0)))
	for _, v := range []int64{1, -1, 2, 1 << 8, 1 << 32, 1 << 62, least, most} {
		checkRun(t, "branch", Step(f, mustStart(t, f, v)), api.Run{Block: 1, Regs: []int64{v}, Steps: 1})
	}
	checkRun(t, "branch", Step(f, mustStart(t, f, 0)), api.Run{Block: 2, Regs: []int64{0}, Steps: 1})
}

// P9.1, P9.2: each run on the way of a loop with two passes.
func TestEachStep(t *testing.T) {
	f := function(t, 1, 3,
		block(jump(1), constant(1, 1)),
		block(branch(0, 2, 3), emit(2), op(5, 2, 2, 0)),
		block(jump(1), op(6, 0, 0, 1)),
		block(ret(2), emit(0)))
	want := []api.Run{
		{Block: 0, At: 0, Regs: []int64{1, 0, 0}},
		{Block: 0, At: 1, Regs: []int64{1, 1, 0}},
		{Block: 1, At: 0, Regs: []int64{1, 1, 0}},
		{Block: 1, At: 1, Regs: []int64{1, 1, 0}, Trace: []int64{0}},
		{Block: 1, At: 2, Regs: []int64{1, 1, 1}, Trace: []int64{0}},
		{Block: 2, At: 0, Regs: []int64{1, 1, 1}, Trace: []int64{0}},
		{Block: 2, At: 1, Regs: []int64{0, 1, 1}, Trace: []int64{0}},
		{Block: 1, At: 0, Regs: []int64{0, 1, 1}, Trace: []int64{0}},
		{Block: 1, At: 1, Regs: []int64{0, 1, 1}, Trace: []int64{0, 1}},
		{Block: 1, At: 2, Regs: []int64{0, 1, 1}, Trace: []int64{0, 1}},
		{Block: 3, At: 0, Regs: []int64{0, 1, 1}, Trace: []int64{0, 1}},
		{Block: 3, At: 1, Regs: []int64{0, 1, 1}, Trace: []int64{0, 1, 0}},
		{Block: 3, At: 1, Regs: []int64{0, 1, 1}, Trace: []int64{0, 1, 0}, State: 1, Value: 1},
	}
	r := mustStart(t, f, 1)
	for k := range want {
		want[k].Steps = k
		checkRun(t, "Step", r, want[k])
		checkRun(t, "Exec", mustExec(t, f, k, 1), want[k])
		r = Step(f, r)
	}
	checkRun(t, "Step at the end", r, want[12])
}

// P9.2: numbers that are not a number of steps.
func TestFuel(t *testing.T) {
	f := function(t, 1, 2, block(branch(0, 0, 1), emit(0), constant(1, 1), op(6, 0, 0, 1)), block(ret(1)))
	for _, fuel := range []int{math.MinInt, math.MinInt + 1, -1 << 32, -1 << 30, -2, -1, 0} {
		checkRun(t, "no fuel", mustExec(t, f, fuel, 2), api.Run{Regs: []int64{2, 0}})
	}
	end := api.Run{State: 1, Block: 1, Value: 1, Regs: []int64{0, 1}, Trace: []int64{2, 1}, Steps: 9}
	for _, fuel := range []int{9, 10, 1<<30 - 1, 1 << 30, 1<<30 + 1, 1 << 31, 1 << 32, math.MaxInt} {
		checkRun(t, "enough fuel", mustExec(t, f, fuel, 2), end)
	}
	end.State, end.Value, end.Steps = 0, 0, 8
	checkRun(t, "one step less", mustExec(t, f, 8, 2), end)
}

// P9.2: more fuel than MaxFuel. This takes 2^30 steps.
func TestMaxFuel(t *testing.T) {
	f := function(t, 0, 0, block(jump(0)))
	checkRun(t, "endless loop", mustExec(t, f, 1<<30+1), api.Run{Steps: 1 << 30})
}

// P9.2: the greatest common divisor, by functions of the source language and of Go.
func TestDivisor(t *testing.T) {
	f := function(t, 2, 3,
		block(branch(1, 1, 2)),
		block(jump(0), op(9, 2, 0, 1), op(2, 0, 1, 0), op(2, 1, 2, 0), emit(1)),
		block(ret(0)))
	for a := int64(-30); a < 30; a++ {
		for b := int64(-30); b < 30; b++ {
			x, y, steps := a, b, 2
			var trace []int64
			for y != 0 {
				x, y = y, x%y
				trace = append(trace, y)
				steps += 6
			}
			r := mustExec(t, f, 1000, a, b)
			if r.State != 1 || r.Value != x || r.Steps != steps || r.Block != 2 || !slices.Equal(r.Trace, trace) {
				t.Errorf("divisor of %d and %d: %+v, want %d, %v after %d steps", a, b, r, x, trace, steps)
			}
		}
	}
}

// P9.2: a long trace, by functions of the source language and of Go. The first argument is multiplied by 3, and 1 is added, or it is divided by 2, until it is 1.
func TestLongTrace(t *testing.T) {
	f := function(t, 1, 5,
		block(jump(1), constant(1, 1), constant(2, 3)),
		block(branch(3, 4, 2), emit(0), op(15, 3, 0, 1)),
		block(branch(3, 3, 5), op(10, 3, 0, 1), op(5, 4, 4, 1)),
		block(jump(1), op(7, 0, 0, 2), op(5, 0, 0, 1)),
		block(ret(4)),
		block(jump(1), op(14, 0, 0, 1)))
	for n := int64(1); n < 300; n++ {
		trace := []int64{n}
		for v := n; v != 1; trace = append(trace, v) {
			if v%2 == 0 {
				v /= 2
			} else {
				v = 3*v + 1
			}
		}
		r := mustExec(t, f, 1<<20, n)
		if r.State != 1 || r.Value != int64(len(trace)-1) || !slices.Equal(r.Trace, trace) {
			t.Errorf("from %d: state %d, value %d, trace %v, want %v", n, r.State, r.Value, r.Trace, trace)
		}
	}
}

// stepModel is Step by the wording of the chapter. The results of operations are those of layer 6.
func stepModel(f api.Func, r api.Run) api.Run {
	next := testkit.CloneRun(r)
	if r.State != 0 {
		return next
	}
	next.Steps = r.Steps + 1
	code, term := f.Blocks[r.Block].Code, f.Blocks[r.Block].Term
	if r.At == len(code) {
		switch {
		case term.Kind == 3:
			next.State, next.Value = 1, r.Regs[term.A]
		case term.Kind == 1 || r.Regs[term.A] != 0:
			next.Block, next.At = term.To, 0
		default:
			next.Block, next.At = term.Else, 0
		}
		return next
	}
	i := code[r.At]
	next.At = r.At + 1
	if i.Op == 17 {
		next.Trace = slices.Concat(r.Trace, []int64{r.Regs[i.A]})
		return next
	}
	v, ok := alu.Eval(i.Op, r.Regs[i.A], r.Regs[i.B], i.Imm)
	if !ok {
		next = testkit.CloneRun(r)
		next.State = 2
		return next
	}
	next.Regs[i.D] = v
	return next
}

// P9.1, P9.2, P9.3: the runs of many functions, for all small amounts of fuel.
func TestRunsAsModel(t *testing.T) {
	s := testkit.Numbers(11)
	seen := map[int]int{}
	for range 4000 {
		f := s.Func()
		args := s.Values(f.Args)
		r := mustStart(t, f, args...)
		want := api.Run{Regs: append(slices.Clone(args), make([]int64, f.Regs-f.Args)...)}
		for fuel := range 25 {
			checkRun(t, "Step", r, want)
			e := mustExec(t, f, fuel, args...)
			checkRun(t, "Exec", e, want)
			if e.Steps > fuel || e.State == 0 && e.Steps != fuel {
				t.Errorf("%d steps and state %d with fuel %d", e.Steps, e.State, fuel)
			}
			next := Step(f, r)
			if len(next.Trace) < len(r.Trace) || !slices.Equal(next.Trace[:len(r.Trace)], r.Trace) {
				t.Errorf("the trace %v is followed by %v", r.Trace, next.Trace)
			}
			r, want = next, stepModel(f, want)
		}
		seen[r.State]++
	}
	for state := range 3 {
		if seen[state] < 100 {
			t.Errorf("only %d functions have runs that end in state %d", seen[state], state)
		}
	}
}

// withRoom returns f with elements behind the ends of all slices.
func withRoom(f api.Func) api.Func {
	for k, b := range f.Blocks {
		f.Blocks[k].Code = append(b.Code, op(9, 9, 9, 9))[:len(b.Code)]
	}
	f.Blocks = append(f.Blocks, block(ret(9), emit(9)))[:len(f.Blocks)]
	return f
}

// P9.4: Start and Exec.
func TestArguments(t *testing.T) {
	s := testkit.Numbers(12)
	for range 2000 {
		f := withRoom(s.Func())
		args := s.Values(f.Args)
		functionBefore, argsBefore := testkit.WholeFunc(f), testkit.WholeValues(args)
		fuel := s.Below(30)
		first, last := mustStart(t, f, args...), mustExec(t, f, fuel, args...)
		firstBefore, lastBefore := testkit.CloneRun(first), testkit.CloneRun(last)
		if !reflect.DeepEqual(testkit.WholeFunc(f), functionBefore) || !slices.Equal(testkit.WholeValues(args), argsBefore) {
			t.Errorf("arguments have changed from %+v, %v to %+v, %v", functionBefore, argsBefore, f, args)
		}
		testkit.SpoilValues(args)
		checkRun(t, "initial run when the arguments have changed", first, firstBefore)
		checkRun(t, "last run when the arguments have changed", last, lastBefore)
		argsBefore = testkit.WholeValues(args)
		testkit.SpoilRun(first)
		checkRun(t, "last run when the initial one has changed", last, lastBefore)
		testkit.SpoilRun(last)
		if !reflect.DeepEqual(testkit.WholeFunc(f), functionBefore) || !slices.Equal(testkit.WholeValues(args), argsBefore) {
			t.Errorf("arguments have changed from %+v, %v to %+v, %v with the result", functionBefore, argsBefore, f, args)
		}
	}
}

// P9.4: Step, also if there is no step.
func TestStepArguments(t *testing.T) {
	s := testkit.Numbers(13)
	seen := map[int]bool{}
	for range 2000 {
		f := withRoom(s.Func())
		args := s.Values(f.Args)
		r := mustStart(t, f, args...)
		for range s.Below(30) {
			r = Step(f, r)
		}
		// Behind the ends of the slices of r, there are values that must stay as they are.
		r.Regs = append(r.Regs, 8, 8, 8)[:len(r.Regs)]
		r.Trace = append(r.Trace, 9, 9, 9)[:len(r.Trace)]
		seen[r.State] = true
		functionBefore, regs, trace := testkit.WholeFunc(f), testkit.WholeValues(r.Regs), testkit.WholeValues(r.Trace)
		next, other := Step(f, r), Step(f, r)
		nextBefore := testkit.CloneRun(next)
		if !reflect.DeepEqual(testkit.WholeFunc(f), functionBefore) || !slices.Equal(testkit.WholeValues(r.Regs), regs) || !slices.Equal(testkit.WholeValues(r.Trace), trace) {
			t.Errorf("arguments have changed to %+v, %+v", f, r)
		}
		testkit.SpoilRun(other)
		if !slices.Equal(testkit.WholeValues(r.Regs), regs) || !slices.Equal(testkit.WholeValues(r.Trace), trace) {
			t.Errorf("run has changed to %+v with the result", r)
		}
		checkRun(t, "result when another one has changed", next, nextBefore)
		testkit.SpoilRun(r)
		checkRun(t, "result when the run has changed", next, nextBefore)
	}
	if len(seen) != 3 {
		t.Errorf("only the states %v", seen)
	}
}

// P9.4: the slices of one result.
func TestSlicesOfResult(t *testing.T) {
	f := function(t, 1, 2, block(jump(0), emit(0)))
	for fuel := range 20 {
		r := mustExec(t, f, fuel, 5)
		testkit.SpoilValues(r.Regs)
		if slices.ContainsFunc(r.Trace, func(v int64) bool { return v != 5 }) {
			t.Errorf("the trace has changed to %v with the registers", r.Trace)
		}
	}
}
