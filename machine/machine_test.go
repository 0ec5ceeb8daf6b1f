package machine

import (
	"math"
	"reflect"
	"slices"
	"strings"
	"testing"

	"regcert/api"
	"regcert/testkit"
)

// move returns a move.
func move(dst, src api.Loc) api.Mach {
	return api.Mach{Op: 18, Dst: dst, Src: src}
}

// misses reports whether there is no location l, with its kind and index by the definition of layer 4.
func misses(l api.Loc, regs, slots int) bool {
	if l < 0 {
		return true
	}
	if l%2 == 1 {
		return int(l-1)/2 >= slots
	}
	return int(l)/2 >= regs
}

// instrModel is Instr by the wording of P8.1.
func instrModel(i api.Mach, regs, slots int) api.Errno {
	if i.Op == 18 {
		switch {
		case misses(i.Dst, regs, slots), misses(i.Src, regs, slots), i.Dst%2 == 1 && i.Src%2 == 1:
			return api.ErrLoc
		case i.D != 0, i.A != 0, i.B != 0, i.Imm != 0:
			return api.ErrField
		}
		return api.OK
	}
	if i.Op == 2 {
		return api.ErrOpcode
	}
	err := testkit.InstrError(api.Instr{Op: i.Op, D: i.D, A: i.A, B: i.B, Imm: i.Imm}, regs)
	if err == api.OK && !(i.Dst == 0 && i.Src == 0) {
		return api.ErrField
	}
	return err
}

// isOneTooMany reports whether the instruction at k is a move that directly follows 64 other ones.
func isOneTooMany(code []api.Mach, k int) bool {
	if k < 64 {
		return false
	}
	for _, i := range code[k-64 : k+1] {
		if i.Op != 18 {
			return false
		}
	}
	return true
}

// codeModel returns the errors of the instructions of a block, by the wording of P8.2.
func codeModel(code []api.Mach, regs, slots int) []api.Errno {
	var errs []api.Errno
	for k, i := range code {
		err := instrModel(i, regs, slots)
		if err == api.OK && isOneTooMany(code, k) {
			err = api.ErrMoves
		}
		errs = append(errs, err)
	}
	return errs
}

// checkModel is Check by the wording of P8.2.
func checkModel(f api.MFunc) api.Errno {
	if f.Args < 0 || f.Args > f.Slots {
		return api.ErrLoc
	}
	if f.Regs < 0 {
		return api.ErrReg
	}
	if f.Slots > 1<<20 || f.Regs > 1<<20 {
		return api.ErrLimit
	}
	if len(f.Blocks) == 0 {
		return api.ErrCount
	}
	var errs []api.Errno
	for _, b := range f.Blocks {
		errs = append(errs, codeModel(b.Code, f.Regs, f.Slots)...)
		errs = append(errs, testkit.TermError(b.Term, f.Regs, len(f.Blocks)))
	}
	for _, err := range errs {
		if err != api.OK {
			return err
		}
	}
	return api.OK
}

// checkInstr compares Instr with the model.
func checkInstr(t *testing.T, i api.Mach, regs, slots int) {
	t.Helper()
	if err, want := Instr(i, regs, slots), instrModel(i, regs, slots); err != want {
		t.Errorf("Instr(%+v, %d, %d) = %d, want %d", i, regs, slots, err, want)
	}
}

// instrCase is an instruction for 5 registers and 3 slots, and its error.
type instrCase struct {
	i    api.Mach
	want api.Errno
}

// checkCases compares Instr with the cases.
func checkCases(t *testing.T, cases []instrCase) {
	t.Helper()
	for _, x := range cases {
		if err := Instr(x.i, 5, 3); err != x.want {
			t.Errorf("Instr(%+v, 5, 3) = %d, want %d", x.i, err, x.want)
		}
	}
}

// P8.1: moves.
func TestMove(t *testing.T) {
	checkCases(t, []instrCase{
		// From register to register, also to itself; from slot to register; from register to slot; at the ends of their ranges.
		{move(0, 0), 0}, {move(8, 8), 0}, {move(0, 8), 0}, {move(8, 0), 0},
		{move(0, 1), 0}, {move(8, 5), 0}, {move(1, 0), 0}, {move(5, 8), 0},
		// From slot to slot.
		{move(3, 1), api.ErrLoc}, {move(1, 3), api.ErrLoc}, {move(1, 1), api.ErrLoc}, {move(5, 5), api.ErrLoc},
		// Out of range.
		{move(10, 0), api.ErrLoc}, {move(0, 10), api.ErrLoc}, {move(7, 0), api.ErrLoc}, {move(0, 7), api.ErrLoc}, {move(9, 0), api.ErrLoc}, {move(0, 9), api.ErrLoc}, {move(7, 10), api.ErrLoc}, {move(7, 1), api.ErrLoc}, {move(5, 7), api.ErrLoc},
		{move(-1, 0), api.ErrLoc}, {move(0, -1), api.ErrLoc}, {move(-2, 0), api.ErrLoc}, {move(0, -2), api.ErrLoc}, {move(-1, -1), api.ErrLoc}, {move(0, math.MinInt), api.ErrLoc}, {move(math.MinInt, 0), api.ErrLoc}, {move(math.MaxInt, 0), api.ErrLoc}, {move(0, math.MaxInt-1), api.ErrLoc}, {move(1<<32, 0), api.ErrLoc},
		// Each unused field, in the range of the registers or not.
		{api.Mach{Op: 18, D: 1}, api.ErrField}, {api.Mach{Op: 18, A: 1}, api.ErrField}, {api.Mach{Op: 18, B: 1}, api.ErrField}, {api.Mach{Op: 18, Imm: 1}, api.ErrField}, {api.Mach{Op: 18, D: -1}, api.ErrField}, {api.Mach{Op: 18, A: 5}, api.ErrField}, {api.Mach{Op: 18, B: math.MinInt}, api.ErrField}, {api.Mach{Op: 18, Imm: 1 << 32}, api.ErrField}, {api.Mach{Op: 18, Imm: math.MinInt64}, api.ErrField},
		// ErrLoc before ErrField.
		{api.Mach{Op: 18, Dst: 10, D: 1}, api.ErrLoc}, {api.Mach{Op: 18, Src: -1, A: 9}, api.ErrLoc}, {api.Mach{Op: 18, Dst: 1, Src: 3, Imm: 1}, api.ErrLoc}, {api.Mach{Op: 18, Src: 7, B: 1}, api.ErrLoc},
	})
	for _, x := range []struct {
		i           api.Mach
		regs, slots int
		want        api.Errno
	}{
		{move(0, 0), 1, 0, 0}, {move(0, 0), 0, 1, api.ErrLoc}, {move(0, 1), 1, 0, api.ErrLoc}, {move(1, 0), 0, 1, api.ErrLoc}, {move(1, 1), 0, 1, api.ErrLoc},
		{move(0, 1), 1, 1, 0}, {move(0, 0), -1, 1, api.ErrLoc}, {move(0, 1), 1, -1, api.ErrLoc}, {move(0, 0), 1, math.MinInt, 0}, {move(0, 0), math.MinInt, 1, api.ErrLoc},
		{move(1<<21-2, 1<<21-1), 1 << 20, 1 << 20, 0}, {move(1<<21, 1<<21-1), 1 << 20, 1 << 20, api.ErrLoc}, {move(0, 1<<21+1), 1 << 20, 1 << 20, api.ErrLoc},
	} {
		if err := Instr(x.i, x.regs, x.slots); err != x.want {
			t.Errorf("Instr(%+v, %d, %d) = %d, want %d", x.i, x.regs, x.slots, err, x.want)
		}
	}
}

// P8.1: other instructions. The opcodes are written as numbers, so that their constants are compared too.
func TestInstr(t *testing.T) {
	checkCases(t, []instrCase{
		// Each shape, at the ends of its ranges.
		{api.Mach{Op: 1}, 0}, {api.Mach{Op: 1, D: 4, Imm: math.MinInt64}, 0}, {api.Mach{Op: 1, Imm: math.MaxInt64}, 0}, {api.Mach{Op: 3, D: 4, A: 4}, 0}, {api.Mach{Op: 4, D: 3, A: 4}, 0},
		{api.Mach{Op: 5}, 0}, {api.Mach{Op: 9, D: 4, A: 4, B: 4}, 0}, {api.Mach{Op: 16, D: 4, A: 3, B: 2}, 0}, {api.Mach{Op: 17}, 0}, {api.Mach{Op: 17, A: 4}, 0},
		// No opcodes, and OpCopy, also with other errors.
		{api.Mach{}, api.ErrOpcode}, {api.Mach{Op: 2}, api.ErrOpcode}, {api.Mach{Op: 19}, api.ErrOpcode}, {api.Mach{Op: -1}, api.ErrOpcode}, {api.Mach{Op: 257}, api.ErrOpcode}, {api.Mach{Op: 18 + 1<<32}, api.ErrOpcode},
		{api.Mach{Op: 2, D: 5}, api.ErrOpcode}, {api.Mach{Op: 2, B: 1, Dst: 1, Src: 3}, api.ErrOpcode}, {api.Mach{D: -1, A: 9, B: 9, Imm: 1, Dst: -1, Src: 99}, api.ErrOpcode},
		// Each field out of range.
		{api.Mach{Op: 1, D: 5}, api.ErrReg}, {api.Mach{Op: 1, D: -1}, api.ErrReg}, {api.Mach{Op: 5, D: 5}, api.ErrReg}, {api.Mach{Op: 5, A: 5}, api.ErrReg}, {api.Mach{Op: 5, B: 5}, api.ErrReg}, {api.Mach{Op: 5, B: -1}, api.ErrReg}, {api.Mach{Op: 3, A: -1}, api.ErrReg}, {api.Mach{Op: 17, A: 5}, api.ErrReg}, {api.Mach{Op: 17, A: math.MinInt}, api.ErrReg}, {api.Mach{Op: 17, A: 1 << 32}, api.ErrReg},
		// Each unused field, in range or not.
		{api.Mach{Op: 1, A: 1}, api.ErrField}, {api.Mach{Op: 1, B: -1}, api.ErrField}, {api.Mach{Op: 3, B: 5}, api.ErrField}, {api.Mach{Op: 3, Imm: 1}, api.ErrField}, {api.Mach{Op: 5, Imm: 1 << 32}, api.ErrField}, {api.Mach{Op: 5, Imm: math.MinInt64}, api.ErrField}, {api.Mach{Op: 17, D: 1}, api.ErrField}, {api.Mach{Op: 17, B: 9}, api.ErrField}, {api.Mach{Op: 17, Imm: -1}, api.ErrField},
		{api.Mach{Op: 1, Dst: 1}, api.ErrField}, {api.Mach{Op: 1, Src: 1}, api.ErrField}, {api.Mach{Op: 3, Dst: -1}, api.ErrField}, {api.Mach{Op: 3, Src: -1}, api.ErrField}, {api.Mach{Op: 5, Dst: 99}, api.ErrField}, {api.Mach{Op: 5, Src: 99}, api.ErrField}, {api.Mach{Op: 17, Dst: 1, Src: 3}, api.ErrField}, {api.Mach{Op: 17, Src: math.MinInt}, api.ErrField}, {api.Mach{Op: 17, Dst: 1 << 32}, api.ErrField},
		// ErrReg before ErrField.
		{api.Mach{Op: 1, D: 5, A: 1}, api.ErrReg}, {api.Mach{Op: 17, D: 1, A: 5}, api.ErrReg}, {api.Mach{Op: 5, B: 5, Imm: 1}, api.ErrReg}, {api.Mach{Op: 5, B: 5, Dst: 1}, api.ErrReg}, {api.Mach{Op: 3, D: -1, Src: 99}, api.ErrReg},
	})
	for _, regs := range []int{0, -1, math.MinInt} {
		for _, op := range []int{1, 3, 5, 16, 17} {
			if err := Instr(api.Mach{Op: op}, regs, 9); err != api.ErrReg {
				t.Errorf("opcode %d with %d registers: error %d", op, regs, err)
			}
		}
	}
	// Slots do not matter without locations.
	for _, slots := range []int{math.MinInt, -1, 0, math.MaxInt} {
		if err := Instr(api.Mach{Op: 17, A: 1}, 2, slots); err != api.OK {
			t.Errorf("%d slots: error %d", slots, err)
		}
	}
}

// P8.1: all opcodes with combinations of edge values.
func TestInstrAsModel(t *testing.T) {
	for _, op := range testkit.Opcodes() {
		for _, i := range []api.Mach{{}, {Imm: 1}, {D: 1, A: 1, B: 1}, {D: 1, A: 1}, {A: 1}, {D: 1}, {Dst: 1}, {Src: 1}, {Dst: 1, Src: 1}, {B: 1, Dst: 2, Src: 2}} {
			i.Op = op
			checkInstr(t, i, 1, 1)
			checkInstr(t, i, 2, 2)
		}
	}
	for op := range 20 {
		for _, n := range testkit.Around(3) {
			for _, v := range testkit.Around(3) {
				for _, w := range testkit.Around(3) {
					for _, i := range []api.Mach{{D: v, A: w}, {A: v, B: w}, {D: v, Src: api.Loc(w)}, {B: v, Dst: api.Loc(w)}, {Imm: int64(v), Dst: api.Loc(w)}} {
						i.Op = op
						checkInstr(t, i, n, 3)
						checkInstr(t, i, 3, n)
					}
				}
			}
		}
	}
}

// P8.1: moves between all locations of small machines and others.
func TestMoveAsModel(t *testing.T) {
	locations := []api.Loc{math.MinInt, math.MinInt + 1, 1 << 32, 1<<32 + 1, math.MaxInt - 1, math.MaxInt}
	for l := api.Loc(-5); l < 10; l++ {
		locations = append(locations, l)
	}
	for _, dst := range locations {
		for _, src := range locations {
			for _, regs := range testkit.Around(3) {
				for _, slots := range testkit.Around(3) {
					checkInstr(t, move(dst, src), regs, slots)
					checkInstr(t, api.Mach{Op: 18, Dst: dst, Src: src, A: 1}, regs, slots)
				}
			}
		}
	}
}

// code returns an instruction for each letter, for a function with 2 registers and 2 slots: m is a move, o is another instruction; l, f, g and c have the errors ErrLoc, ErrField, ErrReg and ErrOpcode, the first two of which are moves.
func code(letters string) []api.Mach {
	var out []api.Mach
	for _, letter := range letters {
		switch letter {
		case 'm':
			out = append(out, move(2, 3))
		case 'o':
			out = append(out, api.Mach{Op: 17})
		case 'l':
			out = append(out, move(1, 3))
		case 'f':
			out = append(out, api.Mach{Op: 18, B: 1})
		case 'g':
			out = append(out, api.Mach{Op: 17, A: 2})
		case 'c':
			out = append(out, api.Mach{Op: 2})
		}
	}
	return out
}

// blocks returns a block for each text of letters. All of them return register 0.
func blocks(texts ...string) []api.MBlock {
	var out []api.MBlock
	for _, letters := range texts {
		out = append(out, api.MBlock{Code: code(letters), Term: api.Term{Kind: 3}})
	}
	return out
}

// P8.2: the numbers of arguments, registers and slots.
func TestSizes(t *testing.T) {
	const most = 1 << 20
	for _, x := range []struct {
		args, regs, slots int
		want              api.Errno
	}{
		{0, 1, 0, 0}, {0, 1, 1, 0}, {1, 1, 1, 0}, {3, 1, 3, 0}, {2, 5, 3, 0}, {9, 1, 9, 0},
		{most, most, most, 0}, {0, most, 0, 0}, {0, 1, most, 0},
		{-1, 1, 0, api.ErrLoc}, {-1, 1, 3, api.ErrLoc}, {math.MinInt, 1, 3, api.ErrLoc}, {1, 1, 0, api.ErrLoc}, {4, 9, 3, api.ErrLoc}, {math.MaxInt, 1, 3, api.ErrLoc},
		{0, 1, -1, api.ErrLoc}, {0, 1, math.MinInt, api.ErrLoc}, {-2, 1, -1, api.ErrLoc}, {-1, 1, -1, api.ErrLoc}, {-1, 1, -2, api.ErrLoc},
		{0, -1, 0, api.ErrReg}, {3, -1, 3, api.ErrReg}, {0, math.MinInt, 0, api.ErrReg},
		{0, most + 1, 0, api.ErrLimit}, {0, 1, most + 1, api.ErrLimit}, {most + 1, 1, most + 1, api.ErrLimit}, {0, math.MaxInt, 3, api.ErrLimit}, {0, 1, math.MaxInt, api.ErrLimit},
		// A return of register 0, which is not there.
		{0, 0, 0, api.ErrReg}, {3, 0, 3, api.ErrReg},
		// The order of the errors.
		{-1, -1, 3, api.ErrLoc}, {4, -1, 3, api.ErrLoc}, {-1, most + 1, 3, api.ErrLoc}, {most + 2, 1, most + 1, api.ErrLoc}, {-1, 1, most + 1, api.ErrLoc}, {0, -1, most + 1, api.ErrReg},
	} {
		f := api.MFunc{Args: x.args, Regs: x.regs, Slots: x.slots, Blocks: blocks("")}
		if err := Check(f); err != x.want {
			t.Errorf("args %d, regs %d, slots %d: error %d, want %d", x.args, x.regs, x.slots, err, x.want)
		}
		// The error of a function without blocks comes behind those of the numbers, and before those of the blocks.
		want := x.want
		if want == api.OK || x.regs == 0 {
			want = api.ErrCount
		}
		f.Blocks = f.Blocks[:0]
		if err := Check(f); err != want {
			t.Errorf("args %d, regs %d, slots %d without blocks: error %d, want %d", x.args, x.regs, x.slots, err, want)
		}
	}
	if err := Check(api.MFunc{}); err != api.ErrCount {
		t.Errorf("empty function: error %d", err)
	}
}

// P8.2: the errors of blocks.
func TestCheck(t *testing.T) {
	m := strings.Repeat("m", 63)
	for k, x := range []struct {
		blocks []api.MBlock
		want   api.Errno
	}{
		{blocks(""), 0}, {blocks("m"), 0}, {blocks("o", "", "mom"), 0},
		{blocks("c"), api.ErrOpcode}, {blocks("g"), api.ErrReg}, {blocks("l"), api.ErrLoc}, {blocks("f"), api.ErrField}, {blocks("", "mo", "omol"), api.ErrLoc},
		// The first error counts, by blocks and then by instructions.
		{blocks("ogc"), api.ErrReg}, {blocks("ocg"), api.ErrOpcode}, {blocks("lf"), api.ErrLoc}, {blocks("fl"), api.ErrField}, {blocks("", "f", "c"), api.ErrField}, {blocks("ooog", "c"), api.ErrReg},
		// The number of moves.
		{blocks(m), 0}, {blocks(m + "m"), 0}, {blocks(m + "mm"), api.ErrMoves}, {blocks(m + m + m), api.ErrMoves}, {blocks("o" + m + "m"), 0}, {blocks("o" + m + "mm"), api.ErrMoves}, {blocks(m + "mmo"), api.ErrMoves},
		{blocks(m + "mo" + m + "m"), 0}, {blocks(m + "mo" + m + "mom"), 0}, {blocks(m + "mo" + m + "mm"), api.ErrMoves}, {blocks(m + "om" + m), 0}, {blocks("mm" + m + "o" + m), api.ErrMoves},
		// Moves of different blocks are not consecutive.
		{blocks(m+"m", m+"m", "m"), 0}, {blocks(m+"m", "", m+"m"), 0}, {blocks("", m+"mm"), api.ErrMoves}, {blocks("m", m+"m", "mm"+m), api.ErrMoves},
		// A move that is not valid has its own error, also where it would be one too many.
		{blocks(m + "ml"), api.ErrLoc}, {blocks(m + "mf"), api.ErrField}, {blocks(m + "l"), api.ErrLoc}, {blocks(m + "fm"), api.ErrField}, {blocks("l" + m + "m"), api.ErrLoc}, {blocks(m + "mlm"), api.ErrLoc},
		// The order of the errors.
		{blocks(m + "mml"), api.ErrMoves}, {blocks(m + "mmc"), api.ErrMoves}, {blocks("c" + m + "mm"), api.ErrOpcode}, {blocks(m + "mc"), api.ErrOpcode}, {blocks(m + "mg"), api.ErrReg}, {blocks(m+"mm", "c"), api.ErrMoves}, {blocks("c", m+"mm"), api.ErrOpcode},
	} {
		if err := Check(api.MFunc{Args: 1, Regs: 2, Slots: 2, Blocks: x.blocks}); err != x.want {
			t.Errorf("function %d: error %d, want %d", k, err, x.want)
		}
	}
}

// P8.2: terminators.
func TestCheckTerm(t *testing.T) {
	m := strings.Repeat("m", 65)
	for _, x := range []struct {
		first, second string
		term          api.Term
		want          api.Errno
	}{
		// At the ends of the ranges: 2 registers and 2 blocks.
		{"", "", api.Term{Kind: 1, To: 1}, 0}, {"m", "o", api.Term{Kind: 1}, 0}, {"", "", api.Term{Kind: 2, A: 1, To: 1, Else: 1}, 0}, {"", "", api.Term{Kind: 2}, 0}, {"", "", api.Term{Kind: 3, A: 1}, 0},
		// Registers and not slots are operands.
		{"", "", api.Term{Kind: 3, A: 2}, api.ErrReg}, {"", "", api.Term{Kind: 2, A: 2}, api.ErrReg}, {"", "", api.Term{Kind: 3, A: -1}, api.ErrReg},
		{"", "", api.Term{Kind: 1, To: 2}, api.ErrTarget}, {"", "", api.Term{Kind: 2, To: 2}, api.ErrTarget}, {"", "", api.Term{Kind: 2, Else: 2}, api.ErrTarget}, {"", "", api.Term{Kind: 1, To: -1}, api.ErrTarget},
		{"", "", api.Term{}, api.ErrTerm}, {"", "", api.Term{Kind: 4}, api.ErrTerm}, {"", "", api.Term{Kind: -1, A: 9}, api.ErrTerm},
		{"", "", api.Term{Kind: 1, A: 1}, api.ErrField}, {"", "", api.Term{Kind: 1, Else: 1}, api.ErrField}, {"", "", api.Term{Kind: 3, To: 1}, api.ErrField}, {"", "", api.Term{Kind: 3, Else: 1}, api.ErrField},
		// Instructions of the block before, and those of later blocks behind.
		{"ooc", "", api.Term{}, api.ErrOpcode}, {m, "", api.Term{Kind: 1, To: 2}, api.ErrMoves}, {"l", "", api.Term{Kind: 3, A: 2}, api.ErrLoc},
		{"mo", "c", api.Term{}, api.ErrTerm}, {"", m, api.Term{Kind: 1, To: 2}, api.ErrTarget}, {"", "f", api.Term{Kind: 1, To: 1}, api.ErrField},
	} {
		f := api.MFunc{Regs: 2, Slots: 5, Blocks: blocks(x.first, x.second)}
		f.Blocks[0].Term = x.term
		if err := Check(f); err != x.want {
			t.Errorf("blocks %q and %q, terminator %+v: error %d, want %d", x.first, x.second, x.term, err, x.want)
		}
	}
	// The terminators of later blocks.
	f := api.MFunc{Regs: 2, Blocks: blocks("", "oo", "")}
	f.Blocks[1].Term, f.Blocks[2].Term = api.Term{Kind: 1, To: 3}, api.Term{}
	if err := Check(f); err != api.ErrTarget {
		t.Errorf("terminator of block 1: error %d", err)
	}
	f.Blocks[1].Term.To = 2
	if err := Check(f); err != api.ErrTerm {
		t.Errorf("terminator of block 2: error %d", err)
	}
}

// P8.2: the limits of blocks and instructions. The blocks share their code, but its instructions count for each of them.
func TestLimits(t *testing.T) {
	const most = 1 << 20
	emits := slices.Repeat(code("o"), most+1)
	// of returns number blocks with size instructions each.
	of := func(number, size int) []api.MBlock {
		return slices.Repeat([]api.MBlock{{Code: emits[:size], Term: api.Term{Kind: 3}}}, number)
	}
	for k, x := range []struct {
		blocks []api.MBlock
		code   int
		want   api.Errno
	}{
		{of(most, 0), 0, 0}, {of(most+1, 0), 0, api.ErrLimit}, {of(1, most), most, 0}, {of(1, most+1), most + 1, api.ErrLimit},
		{of(2, most/2), most, 0}, {of(3, most/2), 3 * most / 2, api.ErrLimit}, {of(most, 1), most, 0}, {of(most, 1<<10), 1 << 30, api.ErrLimit},
		{append(of(1, most), of(1, 1)...), most + 1, api.ErrLimit}, {append(of(1, 0), of(1, most)...), most, 0}, {append(of(1024, 1023), of(1, 1024)...), most, 0}, {append(of(1024, 1023), of(1, 1025)...), most + 1, api.ErrLimit},
		// Before the errors of the blocks.
		{append(blocks("c"), of(1, most)...), most + 1, api.ErrLimit}, {append(blocks("c"), of(1, most-1)...), most, api.ErrOpcode}, {append(of(1, most), blocks("l")...), most + 1, api.ErrLimit}, {append(of(1, most-1), blocks("l")...), most, api.ErrLoc},
		{append(blocks("f"), of(most, 0)...), 1, api.ErrLimit}, {append(of(1, most-1), blocks("o")...), most, 0},
	} {
		f := api.MFunc{Args: 1, Regs: 2, Slots: 2, Blocks: x.blocks}
		if n := Code(f); n != x.code {
			t.Errorf("function %d: %d instructions, want %d", k, n, x.code)
		}
		if err := Check(f); err != x.want {
			t.Errorf("function %d: error %d, want %d", k, err, x.want)
		}
		// Behind the errors of the numbers.
		if f.Regs = -1; Check(f) != api.ErrReg {
			t.Errorf("function %d with -1 registers: error %d", k, Check(f))
		}
	}
}

// P8.2: the instructions of functions that are not valid are counted too.
func TestCode(t *testing.T) {
	for k, x := range []struct {
		blocks []api.MBlock
		want   int
	}{
		{nil, 0}, {blocks(""), 0}, {blocks("", "", ""), 0}, {blocks("m"), 1}, {blocks("mo", "", "olfgc"), 7},
		{[]api.MBlock{{Code: make([]api.Mach, 3, 9)}, {}, {Code: make([]api.Mach, 4)}}, 7},
	} {
		if n := Code(api.MFunc{Args: -1, Regs: -5, Blocks: x.blocks}); n != x.want {
			t.Errorf("function %d: %d instructions, want %d", k, n, x.want)
		}
	}
}

// P8.3
func TestMoves(t *testing.T) {
	for _, x := range []struct {
		letters string
		want    int
	}{
		{"", 0}, {"o", 0}, {"m", 1}, {"mm", 2}, {"om", 1}, {"mo", 1}, {"mom", 1}, {"mommomo", 2}, {"mmmomm", 3}, {"mmommm", 3}, {"ommmo", 3}, {"oooo", 0},
		// Moves that are not valid are moves; instructions without an opcode, or with another one, are not.
		{"lf", 2}, {"mlmf", 4}, {"mcm", 1}, {"gg", 0}, {"mgmm", 2},
		{strings.Repeat("m", 64), 64}, {strings.Repeat("m", 65), 65}, {strings.Repeat("m", 1000) + "o" + strings.Repeat("m", 999), 1000}, {strings.Repeat("mmo", 1000), 2},
	} {
		if n := Moves(code(x.letters)); n != x.want {
			t.Errorf("Moves of %.40q = %d, want %d", x.letters, n, x.want)
		}
	}
}

// P8.3: all short texts of moves and other instructions.
func TestMovesAsModel(t *testing.T) {
	for n := range 12 {
		for bits := range 1 << n {
			var letters []byte
			for k := range n {
				letters = append(letters, "mo"[bits>>k&1])
			}
			want := 0
			for _, run := range strings.Split(string(letters), "o") {
				want = max(want, len(run))
			}
			if got := Moves(code(string(letters))); got != want {
				t.Errorf("Moves of %q = %d, want %d", letters, got, want)
			}
		}
	}
}

// someFunc returns a small function, which is valid unless it has too many consecutive moves.
func someFunc(s *testkit.Numbers) api.MFunc {
	f := s.MFunc()
	for k := range f.Blocks {
		if b := &f.Blocks[k]; s.Below(4) == 0 {
			b.Code = append(b.Code, slices.Repeat([]api.Mach{move(0, 1)}, 60+s.Below(5))...)
		}
	}
	return f
}

// damage changes a field of f.
func damage(s *testkit.Numbers, f *api.MFunc) {
	v := s.Below(8) - 2
	b := &f.Blocks[s.Below(len(f.Blocks))]
	if len(b.Code) == 0 || s.Below(4) == 0 {
		*[]*int{&f.Args, &f.Regs, &f.Slots, &b.Term.Kind, &b.Term.A, &b.Term.To, &b.Term.Else}[s.Below(7)] = v
		return
	}
	i := &b.Code[s.Below(len(b.Code))]
	switch s.Below(4) {
	case 0:
		i.Imm = int64(v)
	case 1:
		*[]*api.Loc{&i.Dst, &i.Src}[s.Below(2)] = api.Loc(v)
	case 2:
		*[]*int{&i.D, &i.A, &i.B}[s.Below(3)] = v
	case 3:
		i.Op = s.Below(20)
	}
}

// P8.2: functions without damage, and with one or several damaged fields.
func TestCheckAsModel(t *testing.T) {
	s := testkit.Numbers(8)
	seen := map[api.Errno]bool{}
	for range 20000 {
		f := someFunc(&s)
		for range 4 {
			err := Check(f)
			if want := checkModel(f); err != want {
				t.Errorf("function %+v: error %d, want %d", f, err, want)
			}
			seen[err] = true
			damage(&s, &f)
		}
	}
	for _, err := range []api.Errno{api.OK, api.ErrOpcode, api.ErrReg, api.ErrLoc, api.ErrTarget, api.ErrField, api.ErrMoves, api.ErrTerm} {
		if !seen[err] {
			t.Errorf("no function with the error %d", err)
		}
	}
}

// P8.4
func TestArgumentsUnmodified(t *testing.T) {
	s := testkit.Numbers(10)
	for range 2000 {
		f := someFunc(&s)
		damage(&s, &f)
		// Behind the ends of all slices, there are elements that must stay as they are.
		for k, b := range f.Blocks {
			f.Blocks[k].Code = append(b.Code, code("mlfgc")...)[:len(b.Code)]
		}
		f.Blocks = append(f.Blocks, blocks("mo", "c")...)[:len(f.Blocks)]
		before := testkit.WholeMFunc(f)
		Check(f)
		Code(f)
		for _, b := range f.Blocks {
			Moves(b.Code)
		}
		if after := testkit.WholeMFunc(f); !reflect.DeepEqual(after, before) {
			t.Errorf("%+v has changed to %+v", before, after)
		}
	}
}
