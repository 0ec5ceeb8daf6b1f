package spillall

import (
	"strings"

	"regcert/api"
	"regcert/source"
	"regcert/testkit"
)

// slot is the location of the slot that belongs to register v.
func slot(v int) api.Loc { return api.Loc(2*v + 1) }

// move is a move from src to dst.
func move(dst, src api.Loc) api.Mach { return api.Mach{Op: 18, Dst: dst, Src: src} }

// instrModel is what an instruction becomes, by the wording of the definition.
func instrModel(i api.Instr) []api.Mach {
	if i.Op == 2 {
		return []api.Mach{move(0, slot(i.A)), move(slot(i.D), 0)}
	}
	uses, _ := testkit.InstrUses(i.Op)
	same := api.Mach{Op: i.Op, Imm: i.Imm}
	var before, after []api.Mach
	for _, field := range strings.Fields(uses) {
		switch field {
		case "A":
			before = append(before, move(0, slot(i.A)))
		case "B":
			before = append(before, move(2, slot(i.B)))
			same.B = 1
		case "D":
			after = append(after, move(slot(i.D), 0))
		}
	}
	return append(append(before, same), after...)
}

// blockModel is the allocated block, by the wording of the definition.
func blockModel(b api.Block) api.MBlock {
	m := api.MBlock{Term: api.Term{Kind: b.Term.Kind, To: b.Term.To, Else: b.Term.Else}}
	for _, i := range b.Code {
		m.Code = append(m.Code, instrModel(i)...)
	}
	if uses, _ := testkit.TermUses(b.Term.Kind); strings.Contains(uses, "A") {
		m.Code = append(m.Code, move(0, slot(b.Term.A)))
	}
	return m
}

// movesModel is the number of moves in the longest run: the instructions are written as letters, and the others separate the runs.
func movesModel(code []api.Mach) int {
	var letters strings.Builder
	for _, i := range code {
		letters.WriteByte("om"[i.Op/18])
	}
	longest := 0
	for _, run := range strings.Split(letters.String(), "o") {
		longest = max(longest, len(run))
	}
	return longest
}

// certModel is what Cert must return, by the wording of P22.2.
func certModel(f api.Func) (api.Cert, api.Errno) {
	if e := source.Check(f); e != 0 {
		return api.Cert{}, e
	}
	c := api.Cert{S: f, T: api.MFunc{Args: f.Args, Regs: 2, Slots: f.Regs}}
	pairs, instructions, moves := 0, 0, 0
	for _, b := range f.Blocks {
		var w []api.Pair
		for v := 0; v < f.Regs; v++ {
			w = append(w, api.Pair{V: v, L: slot(v)})
		}
		m := blockModel(b)
		c.T.Blocks, c.W = append(c.T.Blocks, m), append(c.W, w)
		pairs, instructions, moves = pairs+len(w), instructions+len(m.Code), max(moves, movesModel(m.Code))
	}
	switch {
	case pairs > 1<<20 || instructions > 1<<20:
		return api.Cert{}, 6
	case moves > 64:
		return api.Cert{}, 15
	}
	return c, 0
}
