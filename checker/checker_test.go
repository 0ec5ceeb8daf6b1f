package checker

import (
	"slices"
	"testing"

	"regcert/api"
)

// Opcodes, kinds, errors and locations are written as numbers, so that their constants and definitions are compared too: register n is 2 * n, and slot n is 2 * n + 1.

func p(v int, l api.Loc) api.Pair                 { return api.Pair{V: v, L: l} }
func set(l ...api.Pair) []api.Pair                { return l }
func instr(op, d, a, b int) api.Instr             { return api.Instr{Op: op, D: d, A: a, B: b} }
func on(op, d, a, b int) api.Mach                 { return api.Mach{Op: op, D: d, A: a, B: b} }
func copyOf(d, a int) api.Instr                   { return api.Instr{Op: 2, D: d, A: a} }
func move(dst, src api.Loc) api.Mach              { return api.Mach{Op: 18, Dst: dst, Src: src} }
func jump(to int) api.Term                        { return api.Term{Kind: 1, To: to} }
func branch(a, to, other int) api.Term            { return api.Term{Kind: 2, A: a, To: to, Else: other} }
func ret(a int) api.Term                          { return api.Term{Kind: 3, A: a} }
func block(t api.Term, l ...api.Instr) api.Block  { return api.Block{Code: l, Term: t} }
func mblock(t api.Term, l ...api.Mach) api.MBlock { return api.MBlock{Code: l, Term: t} }
func invalid(err api.Errno) api.Report            { return api.Report{Err: err} }
func accepted(blocks, edges, s, largest int) report {
	return report{0, 0, 0, blocks, edges, s, largest}
}

// A report is an api.Report that can be written without the names of its fields.
type report struct {
	err                                      api.Errno
	block, at, blocks, edges, steps, largest int
}

// expect compares the report of c with want.
func expect(t *testing.T, what string, c api.Cert, want report) {
	t.Helper()
	r := Check(c)
	if got := (report{r.Err, r.Block, r.At, r.Blocks, r.Edges, r.Steps, r.Largest}); got != want {
		t.Errorf("%s: %+v, want %+v", what, got, want)
	}
}

// single returns the certificate of two functions with the same numbers of registers and one block each.
func single(args, regs, slots int, b api.Block, m api.MBlock, w ...api.Pair) api.Cert {
	return api.Cert{
		S: api.Func{Args: args, Regs: regs, Blocks: []api.Block{b}},
		T: api.MFunc{Args: args, Regs: regs, Slots: slots, Blocks: []api.MBlock{m}},
		W: [][]api.Pair{w},
	}
}

// The example of the chapter.
func TestExample(t *testing.T) {
	b, m := block(ret(0)), mblock(ret(0))
	expect(t, "no pairs", single(0, 1, 0, b, m), report{21, 0, 0, 1, 0, 1 + 1, 0})
	expect(t, "one pair", single(0, 1, 0, b, m, p(0, 0)), accepted(1, 0, 2+2, 1))
	expect(t, "one pair and an argument", single(1, 1, 1, b, m, p(0, 0)), report{23, 0, 0, 0, 0, 2, 1})
}

// negation returns the certificate of the examples 1 to 3 of DOC.md.
func negation() api.Cert {
	b := block(ret(1), instr(3, 1, 0, 0))
	m := mblock(ret(0), move(0, 1), on(3, 0, 0, 0), move(3, 0), move(0, 3))
	return single(1, 2, 2, b, m, p(0, 1), p(1, 3))
}

// The examples 2 to 6 of DOC.md.
func TestNegation(t *testing.T) {
	expect(t, "example 2", negation(), accepted(1, 0, 3+3+4+4+3+4+4, 3))
	c := negation()
	c.T.Blocks[0].Code = c.T.Blocks[0].Code[:3]
	expect(t, "example 4, without a move", c, accepted(1, 0, 3+3+4+4+3+4, 3))
	c = negation()
	c.T.Blocks[0].Code[1].D = 1
	expect(t, "example 4, in another register", c, report{21, 0, 4, 1, 0, 3 + 3 + 4 + 4 + 4 + 5 + 5, 4})
	c = negation()
	c.T.Blocks[0].Code[1].Op = 5
	expect(t, "example 5", c, report{20, 0, 1, 1, 0, 3, 2})
	c = negation()
	c.S.Blocks[0].Term, c.T.Blocks[0].Term = jump(0), jump(0)
	expect(t, "example 6, a pair that the block establishes", c, accepted(1, 1, 3+3+4+4+3+4+(1+3+2), 3))
	c.W[0] = set(p(1, 3))
	expect(t, "example 6, without the argument", c, report{21, 0, 1, 1, 0, 2 + 2 + 2, 1})
	c.W[0] = set(p(0, 1), p(1, 2), p(1, 3))
	expect(t, "example 6, a pair that the block does not establish", c, report{22, 0, 0, 1, 1, 4 + 4 + 5 + 5 + 3 + 4 + (1 + 3 + 3), 4})
}

// choice returns the certificate of a function that returns 7 after emitting it if its argument is not 0, and its argument if it is 0.
func choice() api.Cert {
	return api.Cert{
		S: api.Func{Args: 1, Regs: 3, Blocks: []api.Block{
			block(branch(0, 1, 2), api.Instr{Op: 1, D: 1, Imm: 7}),
			block(jump(3), instr(17, 0, 1, 0)),
			block(jump(3), copyOf(1, 0)),
			block(ret(1)),
		}},
		T: api.MFunc{Args: 1, Regs: 2, Slots: 4, Blocks: []api.MBlock{
			mblock(branch(0, 1, 2), move(0, 1), api.Mach{Op: 1, D: 1, Imm: 7}),
			mblock(jump(3), on(17, 0, 1, 0)),
			mblock(jump(3), move(2, 1)),
			mblock(ret(1)),
		}},
		W: [][]api.Pair{{p(0, 1)}, {p(1, 2)}, {p(0, 1)}, {p(1, 2)}},
	}
}

// The steps of the parts of choice, in the order of the check.
const (
	entry  = 2
	block0 = 2 + 3 + 4
	edges0 = 5 + 5
	block1 = 2
	edges1 = 3
	block2 = 2 + 3
	edges2 = 6
	block3 = 2
)

// P16.2, P16.3: each kind of error, and each place of it.
func TestCheck(t *testing.T) {
	const (
		before1 = entry + block0 + edges0
		before2 = before1 + block1 + edges1
		before3 = before2 + block2 + edges2
	)
	for _, x := range []struct {
		what   string
		change func(c *api.Cert)
		want   report
	}{
		{"nothing", func(c *api.Cert) {}, accepted(4, 4, before3+block3, 4)},
		// The entry, before which no block is visited. Its error has no position, whichever pair is not initial.
		{"an argument in a register", func(c *api.Cert) { c.W[0] = set(p(0, 0)) }, report{23, 0, 0, 0, 0, 2, 1}},
		{"an argument is 0", func(c *api.Cert) { c.W[0] = set(p(0, 1), p(1, 1), p(1, 2)) }, report{23, 0, 0, 0, 0, 4, 3}},
		{"the last pair is not initial", func(c *api.Cert) { c.W[0] = set(p(0, 1), p(1, 0), p(1, 3), p(2, 1)) }, report{23, 0, 0, 0, 0, 5, 4}},
		{"a larger invariant elsewhere", func(c *api.Cert) { c.W[0][0].L, c.W[2] = 3, set(p(0, 0), p(0, 1), p(2, 7)) }, report{23, 0, 0, 0, 0, 2, 3}},
		{"before an error of block 0", func(c *api.Cert) { c.W[0][0].L, c.T.Blocks[0].Code[1].Op = 0, 3; c.T.Blocks[0].Code[1].Imm = 0 }, report{23, 0, 0, 0, 0, 2, 1}},
		{"more pairs than necessary", func(c *api.Cert) { c.W[0] = set(p(0, 1), p(1, 0), p(1, 3), p(2, 2)) }, accepted(4, 4, 5+(5+5+4)+edges0+block1+edges1+block2+edges2+block3, 4)},
		// The blocks.
		{"no argument in block 0", func(c *api.Cert) { c.W[0] = nil }, report{21, 0, 2, 1, 0, 1 + (1 + 1 + 2), 1}},
		{"another constant", func(c *api.Cert) { c.T.Blocks[0].Code[1].Imm = 8 }, report{20, 0, 1, 1, 0, entry, 1}},
		{"other targets", func(c *api.Cert) { c.T.Blocks[0].Term = branch(0, 2, 1) }, report{20, 0, 2, 1, 0, entry, 1}},
		{"another terminator", func(c *api.Cert) { c.T.Blocks[0].Term = ret(0) }, report{20, 0, 2, 1, 0, entry, 1}},
		{"a branch on another register", func(c *api.Cert) { c.T.Blocks[0].Term.A = 1 }, report{21, 0, 2, 1, 0, entry + block0, 3}},
		{"another instruction in block 1", func(c *api.Cert) { c.T.Blocks[1].Code[0] = on(3, 1, 1, 0) }, report{20, 1, 0, 2, 2, before1, 3}},
		{"another register in block 1", func(c *api.Cert) { c.T.Blocks[1].Code[0].A = 0 }, report{21, 1, 0, 2, 2, before1 + block1, 3}},
		{"another target in block 1", func(c *api.Cert) { c.T.Blocks[1].Term.To = 2 }, report{20, 1, 1, 2, 2, before1, 3}},
		{"no instruction in block 2", func(c *api.Cert) { c.S.Blocks[2].Code[0].Op = 3 }, report{20, 2, 1, 3, 3, before2, 3}},
		{"another register in block 3", func(c *api.Cert) { c.T.Blocks[3].Term.A = 0 }, report{21, 3, 0, 4, 4, before3 + block3, 4}},
		{"no pairs in block 3", func(c *api.Cert) { c.W[3] = nil }, report{21, 3, 0, 4, 4, before3 - 1 - 1 + 1, 4}},
		// The edges.
		{"edge to block 1", func(c *api.Cert) { c.W[1] = set(p(1, 2), p(2, 2)) }, report{22, 0, 0, 1, 1, entry + block0 + (1 + 3 + 2), 3}},
		{"edge to block 2", func(c *api.Cert) { c.W[2] = set(p(1, 1)) }, report{22, 0, 1, 1, 2, entry + block0 + edges0, 3}},
		{"both edges of block 0", func(c *api.Cert) { c.W[1], c.W[2] = set(p(1, 1)), set(p(1, 1)) }, report{22, 0, 0, 1, 1, entry + block0 + 5, 3}},
		{"edge of block 1", func(c *api.Cert) { c.W[3] = set(p(1, 2), p(1, 3)) }, report{22, 1, 0, 2, 3, before1 + block1 + (1 + 1 + 2), 3}},
		{"edge of block 2", func(c *api.Cert) { c.T.Blocks[2].Code[0].Dst = 0 }, report{22, 2, 0, 3, 4, before3, 4}},
		{"an edge of block 0 before an error of block 1", func(c *api.Cert) { c.W[2], c.T.Blocks[1].Code[0].A = set(p(1, 1)), 0 }, report{22, 0, 1, 1, 2, before1, 3}},
		{"an error of block 1 before its edge", func(c *api.Cert) { c.W[3], c.T.Blocks[1].Code[0].A = set(p(1, 3)), 0 }, report{21, 1, 0, 2, 2, before1 + block1, 3}},
	} {
		c := choice()
		x.change(&c)
		expect(t, x.what, c, x.want)
		// Certificates that are not accepted are valid nevertheless.
		if err := Valid(c); err != 0 {
			t.Errorf("%s: not valid: error %d", x.what, err)
		}
	}
}

// P16.2, P16.3: a branch whose targets are equal has two edges, and blocks that cannot be reached are visited like others.
func TestEdges(t *testing.T) {
	c := choice()
	c.S.Blocks[0].Term, c.T.Blocks[0].Term = branch(0, 2, 2), branch(0, 2, 2)
	expect(t, "equal targets", c, accepted(4, 4, entry+block0+edges0+block1+edges1+block2+edges2+block3, 4))
	c.W[2] = set(p(1, 1))
	expect(t, "equal targets with an error", c, report{22, 0, 0, 1, 1, entry + block0 + 5, 3})
	c.W[2], c.W[1] = set(p(0, 1)), nil
	expect(t, "an error of a block without an edge to it", c, report{21, 1, 0, 2, 2, entry + block0 + edges0 + 1, 3})
	// A block may be its own successor, and block 0 a successor.
	loop := single(1, 2, 2, block(branch(0, 0, 0)), mblock(branch(0, 0, 0), move(0, 1), move(2, 1)), p(0, 1))
	expect(t, "a loop", loop, accepted(1, 2, 2+(2+3+4)+2*(1+3+1), 3))
	loop.W[0] = set(p(0, 1), p(1, 2))
	expect(t, "a loop that changes a register", loop, report{22, 0, 0, 1, 1, 3 + (3 + 4 + 4) + (1 + 3 + 2), 3})
}

// P16.1, P16.2: each part of the definition, and the order of the errors.
func TestValid(t *testing.T) {
	for _, x := range []struct {
		what   string
		change func(c *api.Cert)
		want   api.Errno
	}{
		{"nothing", func(c *api.Cert) {}, 0},
		// The pairs of the ends of all ranges, which are those of the right function.
		{"ends of ranges", func(c *api.Cert) { c.W[1] = set(p(0, 0), p(0, 7), p(2, 0), p(2, 2), p(2, 7)) }, 0},
		{"register", func(c *api.Cert) { c.W[1] = set(p(3, 0)) }, 9},
		{"negative register", func(c *api.Cert) { c.W[3] = set(p(-1, 0)) }, 9},
		{"machine register", func(c *api.Cert) { c.W[1] = set(p(2, 4)) }, 10},
		{"slot", func(c *api.Cert) { c.W[1] = set(p(2, 9)) }, 10},
		{"order of pairs", func(c *api.Cert) { c.W[2] = set(p(1, 0), p(0, 1)) }, 13},
		{"equal pairs", func(c *api.Cert) { c.W[2] = set(p(1, 0), p(1, 0)) }, 13},
		{"an invariant too few", func(c *api.Cert) { c.W = c.W[:3] }, 14},
		{"an invariant too many", func(c *api.Cert) { c.W = append(c.W, nil) }, 14},
		{"no invariants", func(c *api.Cert) { c.W = nil }, 14},
		{"empty invariants", func(c *api.Cert) { c.W = make([][]api.Pair, 4) }, 0},
		// The functions.
		{"source function", func(c *api.Cert) { c.S.Blocks[2].Term = ret(3) }, 9},
		{"registers of the source function", func(c *api.Cert) { c.S.Regs = 1 }, 9},
		{"no source function", func(c *api.Cert) { c.S = api.Func{} }, 14},
		{"move in the source function", func(c *api.Cert) { c.S.Blocks[0].Code[0] = instr(18, 0, 0, 0) }, 8},
		{"allocated function", func(c *api.Cert) { c.T.Blocks[3].Term.A = 2 }, 9},
		{"registers of the allocated function", func(c *api.Cert) { c.T.Regs = 1 }, 9},
		{"slots of the allocated function", func(c *api.Cert) { c.T.Slots = 0 }, 10},
		{"no allocated function", func(c *api.Cert) { c.T = api.MFunc{} }, 14},
		{"copy in the allocated function", func(c *api.Cert) { c.T.Blocks[1].Code[0].Op = 2 }, 8},
		{"moves", func(c *api.Cert) { c.T.Blocks[2].Code = slices.Repeat(c.T.Blocks[2].Code, 65) }, 15},
		{"the greatest number of moves", func(c *api.Cert) { c.T.Blocks[2].Code = slices.Repeat(c.T.Blocks[2].Code, 64) }, 0},
		{"nothing at all", func(c *api.Cert) { *c = api.Cert{} }, 14},
		// What must agree.
		{"fewer source blocks", func(c *api.Cert) { c.S.Blocks = c.S.Blocks[3:] }, 14},
		{"fewer allocated blocks", func(c *api.Cert) { c.T.Blocks = c.T.Blocks[3:] }, 14},
		{"fewer source blocks, and invariants", func(c *api.Cert) { c.S.Blocks, c.W = c.S.Blocks[3:], c.W[3:] }, 14},
		{"fewer allocated blocks, and invariants", func(c *api.Cert) { c.T.Blocks, c.W = c.T.Blocks[3:], c.W[3:] }, 14},
		{"fewer blocks", func(c *api.Cert) { c.S.Blocks, c.T.Blocks, c.W = c.S.Blocks[3:], c.T.Blocks[3:], c.W[3:] }, 0},
		{"fewer arguments", func(c *api.Cert) { c.T.Args = 0 }, 14},
		{"more arguments", func(c *api.Cert) { c.S.Args = 3 }, 14},
		{"more arguments of both", func(c *api.Cert) { c.S.Args, c.T.Args = 3, 3 }, 0},
		{"registers and slots need not agree", func(c *api.Cert) { c.S.Regs, c.T.Regs, c.T.Slots = 9, 99, 999 }, 0},
		// The order of the errors.
		{"source before allocated function", func(c *api.Cert) { c.S.Blocks[3].Term.A, c.T.Blocks[0].Code[0].Src = 3, 9 }, 9},
		{"source function before numbers", func(c *api.Cert) { c.S.Blocks[0].Term.A, c.T.Args = -1, 0 }, 9},
		{"allocated function before numbers", func(c *api.Cert) { c.T.Blocks[3].Term.Kind, c.T.Args = 4, 0 }, 16},
		{"source function before invariants", func(c *api.Cert) { c.S.Blocks[3].Term.Kind, c.W[0][0].L = 0, 99 }, 16},
		{"allocated function before invariants", func(c *api.Cert) { c.T.Blocks[3].Term.To, c.W[0][0].L = 1, 99 }, 12},
		{"numbers before invariants", func(c *api.Cert) { c.T.Args, c.W[0][0].L = 0, 99 }, 14},
		{"number of blocks before invariants", func(c *api.Cert) { c.S.Blocks, c.W[0][0].V = c.S.Blocks[3:], 99 }, 14},
		{"number of invariants before their pairs", func(c *api.Cert) { c.W[0][0].V, c.W = 99, c.W[:3] }, 14},
	} {
		c := choice()
		x.change(&c)
		if err := Valid(c); err != x.want {
			t.Errorf("%s: error %d, want %d", x.what, err, x.want)
		}
		if r := Check(c); x.want != 0 && r != invalid(x.want) {
			t.Errorf("%s: %+v, want only the error %d", x.what, r, x.want)
		}
	}
}

// P16.4: the numbers by hand.
func TestBound(t *testing.T) {
	longer := choice()
	longer.T.Blocks[3].Code = slices.Repeat([]api.Mach{move(2, 1)}, 10)
	looping := choice()
	looping.S.Blocks[3].Term, looping.T.Blocks[3].Term = branch(1, 0, 0), branch(1, 0, 0)
	for k, x := range []struct {
		c             api.Cert
		largest, want int
	}{
		{choice(), 0, 3 * (3 + 4 + 4 + 4 + 1)}, {choice(), 1, 3 * 16 * 2}, {choice(), 4, 3 * 16 * 5}, {choice(), 1 << 20, 3 * 16 * (1<<20 + 1)},
		{longer, 0, 3 * (3 + 14 + 4 + 4 + 1)}, {longer, 6, 3 * 26 * 7}, {looping, 2, 3 * (3 + 4 + 6 + 4 + 1) * 3},
		{negation(), 3, 3 * (1 + 4 + 0 + 1 + 1) * 4}, {single(0, 1, 0, block(ret(0)), mblock(ret(0))), 0, 3 * 2}, {single(0, 1, 0, block(jump(0)), mblock(jump(0))), 9, 3 * 3 * 10},
	} {
		if got := Bound(x.c, x.largest); got != x.want {
			t.Errorf("case %d: %d, want %d", k, got, x.want)
		}
	}
}
