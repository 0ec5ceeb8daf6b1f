package source

import (
	"math"
	"reflect"
	"slices"
	"testing"

	"regcert/api"
	"regcert/testkit"
)

// checkModel is Check by the wording of P7.3.
func checkModel(f api.Func) api.Errno {
	if f.Args < 0 || f.Args > f.Regs {
		return api.ErrReg
	}
	if f.Regs > 1<<20 {
		return api.ErrLimit
	}
	if len(f.Blocks) == 0 {
		return api.ErrCount
	}
	var errs []api.Errno
	code := 0
	for _, b := range f.Blocks {
		code += len(b.Code)
		for _, i := range b.Code {
			errs = append(errs, testkit.InstrError(i, f.Regs))
		}
		errs = append(errs, testkit.TermError(b.Term, f.Regs, len(f.Blocks)))
	}
	if len(f.Blocks) > 1<<20 || code > 1<<20 {
		return api.ErrLimit
	}
	for _, err := range errs {
		if err != api.OK {
			return err
		}
	}
	return api.OK
}

// checkInstr compares Instr with the model.
func checkInstr(t *testing.T, i api.Instr, regs int) {
	t.Helper()
	if err, want := Instr(i, regs), testkit.InstrError(i, regs); err != want {
		t.Errorf("Instr(%+v, %d) = %d, want %d", i, regs, err, want)
	}
}

// checkTerm compares Term and Successors with the model and the wording.
func checkTerm(t *testing.T, x api.Term, regs, blocks int) {
	t.Helper()
	if err, want := Term(x, regs, blocks), testkit.TermError(x, regs, blocks); err != want {
		t.Errorf("Term(%+v, %d, %d) = %d, want %d", x, regs, blocks, err, want)
	}
	var want []int
	if x.Kind == 1 || x.Kind == 2 {
		want = append(want, x.To)
	}
	if x.Kind == 2 {
		want = append(want, x.Else)
	}
	if to := Successors(x); !slices.Equal(to, want) {
		t.Errorf("Successors(%+v) = %v, want %v", x, to, want)
	}
}

// P7.1: the opcodes are written as numbers, so that their constants are compared too.
func TestInstr(t *testing.T) {
	for _, x := range []struct {
		i    api.Instr
		regs int
		want api.Errno
	}{
		// Each shape, at the ends of its ranges.
		{api.Instr{Op: 1}, 1, 0}, {api.Instr{Op: 1, D: 4, Imm: math.MinInt64}, 5, 0}, {api.Instr{Op: 1, Imm: math.MaxInt64}, 1, 0}, {api.Instr{Op: 1, Imm: -1}, 1, 0},
		{api.Instr{Op: 2}, 1, 0}, {api.Instr{Op: 3, D: 4, A: 4}, 5, 0}, {api.Instr{Op: 4, D: 3, A: 4}, 5, 0},
		{api.Instr{Op: 5}, 1, 0}, {api.Instr{Op: 9, D: 4, A: 4, B: 4}, 5, 0}, {api.Instr{Op: 16, D: 4, A: 3, B: 2}, 5, 0},
		{api.Instr{Op: 17}, 1, 0}, {api.Instr{Op: 17, A: 4}, 5, 0},
		{api.Instr{Op: 5, D: 1<<20 - 1, A: 1<<20 - 1, B: 1<<20 - 1}, 1 << 20, 0},
		// No opcodes, and OpMove, also with other errors.
		{api.Instr{Op: 0}, 1, api.ErrOpcode}, {api.Instr{Op: 18}, 1, api.ErrOpcode}, {api.Instr{Op: 19}, 1, api.ErrOpcode}, {api.Instr{Op: -1}, 1, api.ErrOpcode},
		{api.Instr{Op: 18, D: 1}, 1, api.ErrOpcode}, {api.Instr{Op: 0, D: -1, A: 9, B: 9, Imm: 1}, 0, api.ErrOpcode}, {api.Instr{Op: 257}, 1, api.ErrOpcode},
		// Each field out of range.
		{api.Instr{Op: 1, D: 5}, 5, api.ErrReg}, {api.Instr{Op: 1, D: -1}, 5, api.ErrReg}, {api.Instr{Op: 5, D: 5}, 5, api.ErrReg}, {api.Instr{Op: 5, A: 5}, 5, api.ErrReg}, {api.Instr{Op: 5, B: 5}, 5, api.ErrReg}, {api.Instr{Op: 5, B: -1}, 5, api.ErrReg},
		{api.Instr{Op: 3, A: -1}, 5, api.ErrReg}, {api.Instr{Op: 17, A: 5}, 5, api.ErrReg}, {api.Instr{Op: 17, A: math.MinInt}, 5, api.ErrReg}, {api.Instr{Op: 17, A: 1 << 32}, 5, api.ErrReg},
		// No registers.
		{api.Instr{Op: 1}, 0, api.ErrReg}, {api.Instr{Op: 17}, 0, api.ErrReg}, {api.Instr{Op: 5}, -1, api.ErrReg}, {api.Instr{Op: 5}, math.MinInt, api.ErrReg},
		// Each unused field, in range or not.
		{api.Instr{Op: 1, A: 1}, 5, api.ErrField}, {api.Instr{Op: 1, B: 1}, 5, api.ErrField}, {api.Instr{Op: 1, A: 5}, 5, api.ErrField}, {api.Instr{Op: 1, B: -1, Imm: 7}, 5, api.ErrField},
		{api.Instr{Op: 2, B: 1}, 5, api.ErrField}, {api.Instr{Op: 2, Imm: 1}, 5, api.ErrField}, {api.Instr{Op: 5, Imm: -1}, 5, api.ErrField}, {api.Instr{Op: 5, Imm: 1 << 32}, 5, api.ErrField}, {api.Instr{Op: 5, Imm: math.MinInt64}, 5, api.ErrField},
		{api.Instr{Op: 17, D: 1}, 5, api.ErrField}, {api.Instr{Op: 17, B: 1}, 5, api.ErrField}, {api.Instr{Op: 17, Imm: 1}, 5, api.ErrField}, {api.Instr{Op: 17, D: 9}, 5, api.ErrField},
		// ErrReg before ErrField.
		{api.Instr{Op: 1, D: 5, A: 1}, 5, api.ErrReg}, {api.Instr{Op: 17, D: 1, A: 5}, 5, api.ErrReg}, {api.Instr{Op: 5, B: 5, Imm: 1}, 5, api.ErrReg}, {api.Instr{Op: 2, A: -1, B: 1, Imm: 1}, 5, api.ErrReg},
	} {
		if err := Instr(x.i, x.regs); err != x.want {
			t.Errorf("Instr(%+v, %d) = %d, want %d", x.i, x.regs, err, x.want)
		}
	}
}

// P7.1: all opcodes with all combinations of edge values.
func TestInstrAsModel(t *testing.T) {
	for _, op := range testkit.Opcodes() {
		for _, imm := range []int64{0, 1, -1, 1 << 32, math.MinInt64} {
			checkInstr(t, api.Instr{Op: op, Imm: imm}, 1)
			checkInstr(t, api.Instr{Op: op, D: 1, A: 1, B: 1, Imm: imm}, 2)
			checkInstr(t, api.Instr{Op: op, D: 1, A: 1, B: 1, Imm: imm}, 1)
		}
	}
	for op := range 20 {
		for _, regs := range testkit.Around(3) {
			for _, d := range testkit.Around(3) {
				for _, a := range testkit.Around(3) {
					for _, b := range testkit.Around(3) {
						checkInstr(t, api.Instr{Op: op, D: d, A: a, B: b}, regs)
						checkInstr(t, api.Instr{Op: op, D: d, A: a, B: b, Imm: 1}, regs)
					}
				}
			}
		}
	}
}

// P7.2: the kinds are written as numbers, so that their constants are compared too.
func TestTerm(t *testing.T) {
	for _, x := range []struct {
		t            api.Term
		regs, blocks int
		want         api.Errno
	}{
		// Each kind, at the ends of its ranges.
		{api.Term{Kind: 1}, 0, 1, 0}, {api.Term{Kind: 1, To: 4}, 0, 5, 0},
		{api.Term{Kind: 2}, 1, 1, 0}, {api.Term{Kind: 2, A: 2, To: 4, Else: 3}, 3, 5, 0}, {api.Term{Kind: 2, A: 2, To: 4, Else: 4}, 3, 5, 0}, {api.Term{Kind: 2, Else: 4}, 3, 5, 0},
		{api.Term{Kind: 3}, 1, 0, 0}, {api.Term{Kind: 3, A: 2}, 3, 0, 0},
		// No kinds, also with other errors.
		{api.Term{Kind: 0}, 1, 1, api.ErrTerm}, {api.Term{Kind: 4}, 1, 1, api.ErrTerm}, {api.Term{Kind: -1}, 1, 1, api.ErrTerm}, {api.Term{Kind: 257}, 1, 1, api.ErrTerm}, {api.Term{Kind: 0, A: 9, To: 9, Else: 9}, 1, 1, api.ErrTerm},
		// Registers out of range.
		{api.Term{Kind: 2, A: 3}, 3, 5, api.ErrReg}, {api.Term{Kind: 2, A: -1}, 3, 5, api.ErrReg}, {api.Term{Kind: 3, A: 3}, 3, 5, api.ErrReg}, {api.Term{Kind: 3, A: -1}, 3, 5, api.ErrReg}, {api.Term{Kind: 3}, 0, 5, api.ErrReg}, {api.Term{Kind: 2}, 0, 5, api.ErrReg}, {api.Term{Kind: 3, A: 4}, 3, 5, api.ErrReg},
		// Targets out of range.
		{api.Term{Kind: 1, To: 5}, 3, 5, api.ErrTarget}, {api.Term{Kind: 1, To: -1}, 3, 5, api.ErrTarget}, {api.Term{Kind: 2, To: 5}, 3, 5, api.ErrTarget}, {api.Term{Kind: 2, Else: 5}, 3, 5, api.ErrTarget}, {api.Term{Kind: 2, Else: -1}, 3, 5, api.ErrTarget}, {api.Term{Kind: 1}, 3, 0, api.ErrTarget}, {api.Term{Kind: 1, To: 2}, 3, 2, api.ErrTarget},
		// Unused fields, in range or not.
		{api.Term{Kind: 1, A: 1}, 3, 5, api.ErrField}, {api.Term{Kind: 1, Else: 1}, 3, 5, api.ErrField}, {api.Term{Kind: 1, A: 9}, 3, 5, api.ErrField}, {api.Term{Kind: 1, Else: -1}, 3, 5, api.ErrField}, {api.Term{Kind: 3, To: 1}, 3, 5, api.ErrField}, {api.Term{Kind: 3, Else: 1}, 3, 5, api.ErrField}, {api.Term{Kind: 3, To: 9}, 3, 5, api.ErrField},
		// The order of the errors.
		{api.Term{Kind: 2, A: 3, To: 5}, 3, 5, api.ErrReg}, {api.Term{Kind: 2, A: 3, Else: 5}, 3, 5, api.ErrReg}, {api.Term{Kind: 3, A: 3, To: 1}, 3, 5, api.ErrReg}, {api.Term{Kind: 1, A: 1, To: 5}, 3, 5, api.ErrTarget}, {api.Term{Kind: 1, To: 5, Else: 1}, 3, 5, api.ErrTarget},
	} {
		if err := Term(x.t, x.regs, x.blocks); err != x.want {
			t.Errorf("Term(%+v, %d, %d) = %d, want %d", x.t, x.regs, x.blocks, err, x.want)
		}
	}
}

// P7.2: Term and Successors for all combinations of edge values.
func TestTermAsModel(t *testing.T) {
	for _, kind := range []int{math.MinInt, -1, 0, 1, 2, 3, 4, 5, 8, 257, 258, 259, 1<<32 + 1, 1<<32 + 2, math.MinInt + 1, math.MinInt + 2, math.MaxInt} {
		for _, a := range testkit.Around(3) {
			for _, to := range testkit.Around(5) {
				for _, other := range testkit.Around(5) {
					for _, regs := range []int{math.MinInt, -1, 0, 1, 3, math.MaxInt} {
						checkTerm(t, api.Term{Kind: kind, A: a, To: to, Else: other}, regs, 5)
						checkTerm(t, api.Term{Kind: kind, A: a, To: to, Else: other}, 3, regs)
					}
				}
			}
		}
	}
}

// P7.2
func TestSuccessors(t *testing.T) {
	for _, x := range []struct {
		t    api.Term
		want []int
	}{
		{api.Term{Kind: 1, To: 7, A: 1, Else: 2}, []int{7}},
		{api.Term{Kind: 2, To: 7, Else: 2, A: 1}, []int{7, 2}},
		{api.Term{Kind: 2, To: 2, Else: 7}, []int{2, 7}},
		{api.Term{Kind: 2, To: 4, Else: 4}, []int{4, 4}},
		{api.Term{Kind: 2, To: -1, Else: math.MaxInt}, []int{-1, math.MaxInt}},
		{api.Term{Kind: 3, To: 7, Else: 2}, nil},
		{api.Term{Kind: 0, To: 7, Else: 2}, nil},
		{api.Term{Kind: 4, To: 7, Else: 2}, nil},
		{api.Term{Kind: -1, To: 7, Else: 2}, nil},
	} {
		to := Successors(x.t)
		if !slices.Equal(to, x.want) {
			t.Errorf("Successors(%+v) = %v, want %v", x.t, to, x.want)
		}
		for k := range to {
			to[k]++
		}
		if again := Successors(x.t); !slices.Equal(again, x.want) {
			t.Errorf("Successors(%+v) = %v when the earlier result has changed", x.t, again)
		}
	}
}

// ret is the block that returns register 0.
func ret() api.Block {
	return api.Block{Term: api.Term{Kind: 3}}
}

// P7.3
func TestCheck(t *testing.T) {
	noTerm := api.Block{}
	reg := api.Block{Code: []api.Instr{{Op: 17}, {Op: 17, A: 4}}, Term: api.Term{Kind: 3}}
	opcode := api.Block{Code: []api.Instr{{Op: 18}, {Op: 17, A: 4}}}
	field := api.Block{Code: []api.Instr{{Op: 2, B: 1}, {Op: 18}}, Term: api.Term{Kind: 3, A: 9}}
	target := api.Block{Term: api.Term{Kind: 1, To: 2}}
	loop := api.Block{Code: []api.Instr{{Op: 1, D: 3, Imm: -5}, {Op: 8, D: 2, A: 3, B: 3}}, Term: api.Term{Kind: 2, A: 3, To: 1, Else: 0}}
	for k, x := range []struct {
		f    api.Func
		want api.Errno
	}{
		// The examples of the chapter and of DOC.md.
		{api.Func{Regs: 1, Blocks: []api.Block{ret()}}, 0},
		{api.Func{Regs: 0, Blocks: []api.Block{ret()}}, api.ErrReg},
		{api.Func{Args: 1, Regs: 2, Blocks: []api.Block{{Code: []api.Instr{{Op: 3, D: 1, A: 0}}, Term: api.Term{Kind: 3, A: 1}}}}, 0},
		// Other valid functions.
		{api.Func{Args: 4, Regs: 4, Blocks: []api.Block{loop, ret()}}, 0},
		{api.Func{Blocks: []api.Block{{Term: api.Term{Kind: 1}}}}, 0},
		{api.Func{Args: 1 << 20, Regs: 1 << 20, Blocks: []api.Block{ret()}}, 0},
		// Args and Regs.
		{api.Func{Args: -1, Regs: 4, Blocks: []api.Block{ret()}}, api.ErrReg},
		{api.Func{Args: math.MinInt, Regs: 4, Blocks: []api.Block{ret()}}, api.ErrReg},
		{api.Func{Args: 5, Regs: 4, Blocks: []api.Block{ret()}}, api.ErrReg},
		{api.Func{Args: 0, Regs: -1, Blocks: []api.Block{ret()}}, api.ErrReg},
		{api.Func{Args: -2, Regs: -1, Blocks: []api.Block{ret()}}, api.ErrReg},
		{api.Func{Regs: 1<<20 + 1, Blocks: []api.Block{ret()}}, api.ErrLimit},
		{api.Func{Regs: math.MaxInt, Blocks: []api.Block{ret()}}, api.ErrLimit},
		// Blocks.
		{api.Func{}, api.ErrCount}, {api.Func{Args: 4, Regs: 4, Blocks: []api.Block{}}, api.ErrCount},
		{api.Func{Regs: 4, Blocks: []api.Block{noTerm}}, api.ErrTerm}, {api.Func{Regs: 4, Blocks: []api.Block{reg}}, api.ErrReg}, {api.Func{Regs: 4, Blocks: []api.Block{opcode}}, api.ErrOpcode}, {api.Func{Regs: 4, Blocks: []api.Block{field}}, api.ErrField}, {api.Func{Regs: 4, Blocks: []api.Block{target, ret()}}, api.ErrTarget}, {api.Func{Regs: 4, Blocks: []api.Block{loop}}, api.ErrTarget},
		{api.Func{Regs: 4, Blocks: []api.Block{target, ret(), ret()}}, 0},
		{api.Func{Regs: 5, Blocks: []api.Block{reg}}, 0},
		// The order of the errors.
		{api.Func{Args: -1, Regs: 1<<20 + 1}, api.ErrReg},
		{api.Func{Args: 1<<20 + 2, Regs: 1<<20 + 1}, api.ErrReg},
		{api.Func{Args: 5, Regs: 4}, api.ErrReg},
		{api.Func{Args: 5, Regs: 4, Blocks: []api.Block{opcode}}, api.ErrReg},
		{api.Func{Regs: 1<<20 + 1}, api.ErrLimit},
		{api.Func{Regs: 1<<20 + 1, Blocks: []api.Block{opcode}}, api.ErrLimit},
		{api.Func{Regs: 4, Blocks: []api.Block{ret(), reg, opcode}}, api.ErrReg},
		{api.Func{Regs: 4, Blocks: []api.Block{ret(), opcode, reg}}, api.ErrOpcode},
		{api.Func{Regs: 4, Blocks: []api.Block{noTerm, opcode, reg}}, api.ErrTerm},
		{api.Func{Regs: 4, Blocks: []api.Block{ret(), ret(), field, noTerm}}, api.ErrField},
	} {
		if err := Check(x.f); err != x.want {
			t.Errorf("function %d: error %d, want %d", k, err, x.want)
		}
	}
}

// P7.3: the numbers of blocks and instructions, and the order of their errors. The blocks share their code, but its instructions count for each of them.
func TestLimits(t *testing.T) {
	bad := api.Block{Code: []api.Instr{{Op: 99}}}
	code := slices.Repeat([]api.Instr{{Op: 17}}, 1<<20+1)
	emits := func(n int) api.Block { return api.Block{Code: code[:n], Term: ret().Term} }
	list := func(blocks ...api.Block) []api.Block { return blocks }
	many := slices.Repeat(list(ret()), 1<<20+1)
	for k, x := range []struct {
		blocks []api.Block
		code   int
		want   api.Errno
	}{
		{many[:1<<20], 0, 0},
		{many, 0, api.ErrLimit},
		{list(emits(1 << 20)), 1 << 20, 0},
		{list(emits(1<<20 + 1)), 1<<20 + 1, api.ErrLimit},
		{list(emits(1<<20), emits(1)), 1<<20 + 1, api.ErrLimit},
		{list(emits(1<<19), ret(), emits(1<<19)), 1 << 20, 0},
		{list(emits(1<<19), ret(), emits(1<<19+1)), 1<<20 + 1, api.ErrLimit},
		{slices.Repeat(list(emits(1<<10)), 1<<10), 1 << 20, 0},
		{slices.Repeat(list(emits(1<<10)), 1<<10+1), 1<<20 + 1<<10, api.ErrLimit},
		{slices.Repeat(list(emits(1)), 1<<20), 1 << 20, 0},
		{slices.Repeat(list(emits(1<<10)), 1<<20), 1 << 30, api.ErrLimit},
		// ErrLimit before the errors of the blocks.
		{slices.Repeat(list(bad), 1<<20+1), 1<<20 + 1, api.ErrLimit},
		{list(bad, emits(1<<20)), 1<<20 + 1, api.ErrLimit},
		{list(emits(1<<20), bad), 1<<20 + 1, api.ErrLimit},
		{list(emits(1<<20-1), bad), 1 << 20, api.ErrOpcode},
	} {
		f := api.Func{Regs: 1, Blocks: x.blocks}
		if n := Code(f); n != x.code {
			t.Errorf("function %d: %d instructions, want %d", k, n, x.code)
		}
		if err := Check(f); err != x.want {
			t.Errorf("function %d: error %d, want %d", k, err, x.want)
		}
		// ErrLimit behind the error of the arguments.
		f.Args = 2
		if err := Check(f); err != api.ErrReg {
			t.Errorf("function %d with too many arguments: error %d", k, err)
		}
	}
}

// P7.3: the instructions of functions that are not valid are counted too.
func TestCode(t *testing.T) {
	for k, x := range []struct {
		f    api.Func
		want int
	}{
		{api.Func{}, 0}, {api.Func{Args: -1, Regs: -5}, 0}, {api.Func{Blocks: []api.Block{{}, {}}}, 0},
		{api.Func{Blocks: []api.Block{{Code: make([]api.Instr, 3)}}}, 3},
		{api.Func{Blocks: []api.Block{{Code: make([]api.Instr, 3, 9)}, {}, {Code: make([]api.Instr, 4)}, {Code: make([]api.Instr, 1)}}}, 8},
	} {
		if n := Code(x.f); n != x.want {
			t.Errorf("function %d: %d instructions, want %d", k, n, x.want)
		}
	}
}

// P7.3: valid functions, and those with one or several damaged fields.
func TestCheckAsModel(t *testing.T) {
	s := testkit.Numbers(7)
	seen := map[api.Errno]bool{}
	for range 40000 {
		f := s.Func()
		if err := Check(f); err != api.OK {
			t.Errorf("valid function %+v: error %d", f, err)
		}
		for range 3 {
			s.DamageFunc(&f)
			err := Check(f)
			if want := checkModel(f); err != want {
				t.Errorf("function %+v: error %d, want %d", f, err, want)
			}
			seen[err] = true
		}
	}
	for _, err := range []api.Errno{api.OK, api.ErrOpcode, api.ErrReg, api.ErrTarget, api.ErrField, api.ErrTerm} {
		if !seen[err] {
			t.Errorf("no function with the error %d", err)
		}
	}
}

// P7.4
func TestArgumentsUnmodified(t *testing.T) {
	s := testkit.Numbers(9)
	for range 2000 {
		f := s.Func()
		s.DamageFunc(&f)
		for k := range f.Blocks {
			f.Blocks[k].Code = append(f.Blocks[k].Code, api.Instr{Op: 9, D: 9, A: 9, B: 9, Imm: 9})[:len(f.Blocks[k].Code)]
		}
		f.Blocks = append(f.Blocks, api.Block{Code: []api.Instr{{Op: 9}}, Term: api.Term{Kind: 9}})[:len(f.Blocks)]
		before := testkit.WholeFunc(f)
		Check(f)
		Code(f)
		if after := testkit.WholeFunc(f); !reflect.DeepEqual(after, before) {
			t.Errorf("%+v has changed to %+v", before, after)
		}
	}
}
