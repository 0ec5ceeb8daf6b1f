package testkit

import (
	"math"
	"slices"
	"strings"

	"regcert/api"
)

// InstrUses returns the fields that instructions with the opcode use, by the table of layer 5, with I for Imm, and whether it is a source opcode.
func InstrUses(op int) (string, bool) {
	switch {
	case op == 1:
		return "D I", true
	case op >= 2 && op <= 4:
		return "D A", true
	case op >= 5 && op <= 16:
		return "D A B", true
	case op == 17:
		return "A", true
	}
	return "", false
}

// TermUses returns the fields that terminators of the kind use, and whether there are such terminators.
func TermUses(kind int) (string, bool) {
	switch kind {
	case 1:
		return "To", true
	case 2:
		return "A To Else", true
	case 3:
		return "A", true
	}
	return "", false
}

// outside reports whether v is not from 0 to n - 1.
func outside(v, n int) bool {
	return v < 0 || v >= n
}

// InstrError is what layer 7 must find wrong with an instruction, by the wording of P7.1.
func InstrError(i api.Instr, regs int) api.Errno {
	uses, ok := InstrUses(i.Op)
	if !ok {
		return api.ErrOpcode
	}
	d, a, b, imm := strings.Contains(uses, "D"), strings.Contains(uses, "A"), strings.Contains(uses, "B"), strings.Contains(uses, "I")
	if d && outside(i.D, regs) || a && outside(i.A, regs) || b && outside(i.B, regs) {
		return api.ErrReg
	}
	if !d && i.D != 0 || !a && i.A != 0 || !b && i.B != 0 || !imm && i.Imm != 0 {
		return api.ErrField
	}
	return api.OK
}

// TermError is what layer 7 must find wrong with a terminator, by the wording of P7.2.
func TermError(t api.Term, regs, blocks int) api.Errno {
	uses, ok := TermUses(t.Kind)
	if !ok {
		return api.ErrTerm
	}
	a, to, other := strings.Contains(uses, "A"), strings.Contains(uses, "To"), strings.Contains(uses, "Else")
	if a && outside(t.A, regs) {
		return api.ErrReg
	}
	if to && outside(t.To, blocks) || other && outside(t.Else, blocks) {
		return api.ErrTarget
	}
	if !a && t.A != 0 || !to && t.To != 0 || !other && t.Else != 0 {
		return api.ErrField
	}
	return api.OK
}

// Around returns integers around 0 and n, those whose low bits are a small number, and extreme ones.
func Around(n int) []int {
	return []int{math.MinInt, -1 << 32, -2, -1, 0, 1, n - 1, n, n + 1, 1 << 32, 1<<32 + 1, math.MaxInt}
}

// Opcodes returns the integers around the opcodes, and others whose low bits are an opcode.
func Opcodes() []int {
	l := []int{math.MinInt, math.MinInt + 1, math.MaxInt}
	for op := -3; op < 40; op++ {
		l = append(l, op, op+1<<8, op+1<<32, op+math.MinInt+3)
	}
	return l
}

// Instr returns a valid instruction for a positive number of registers.
func (s *Numbers) Instr(regs int) api.Instr {
	i := api.Instr{Op: 1 + s.Below(17)}
	uses, _ := InstrUses(i.Op)
	if strings.Contains(uses, "D") {
		i.D = s.Below(regs)
	}
	if strings.Contains(uses, "A") {
		i.A = s.Below(regs)
	}
	if strings.Contains(uses, "B") {
		i.B = s.Below(regs)
	}
	if strings.Contains(uses, "I") {
		i.Imm = int64(s.Wide())
	}
	return i
}

// Mach returns a valid instruction of an allocated function for positive numbers of registers and slots, often a move.
func (s *Numbers) Mach(regs, slots int) api.Mach {
	if s.Below(2) == 0 {
		move := api.Mach{Op: 18, Dst: api.Loc(2 * s.Below(regs)), Src: api.Loc(2 * s.Below(regs))}
		switch s.Below(3) {
		case 0:
			move.Dst = api.Loc(2*s.Below(slots) + 1)
		case 1:
			move.Src = api.Loc(2*s.Below(slots) + 1)
		}
		return move
	}
	i := s.Instr(regs)
	// A copy, which allocated functions do not have, has the fields of a negation.
	if i.Op == 2 {
		i.Op = 3
	}
	return api.Mach{Op: i.Op, D: i.D, A: i.A, B: i.B, Imm: i.Imm}
}

// Term returns a valid terminator for positive numbers of registers and blocks.
func (s *Numbers) Term(regs, blocks int) api.Term {
	switch s.Below(3) {
	case 0:
		return api.Term{Kind: 1, To: s.Below(blocks)}
	case 1:
		return api.Term{Kind: 2, A: s.Below(regs), To: s.Below(blocks), Else: s.Below(blocks)}
	}
	return api.Term{Kind: 3, A: s.Below(regs)}
}

// Func returns a small valid function.
func (s *Numbers) Func() api.Func {
	f := api.Func{Regs: 1 + s.Below(4)}
	f.Args = s.Below(f.Regs + 1)
	blocks := 1 + s.Below(4)
	for range blocks {
		var b api.Block
		for range s.Below(4) {
			b.Code = append(b.Code, s.Instr(f.Regs))
		}
		b.Term = s.Term(f.Regs, blocks)
		f.Blocks = append(f.Blocks, b)
	}
	return f
}

// CopyingFunc returns a valid function with up to this number of instructions in each block, many of them copies.
func (s *Numbers) CopyingFunc(most int) api.Func {
	f := s.Func()
	for k := range f.Blocks {
		b := &f.Blocks[k]
		b.Code = nil
		rate := 1 + s.Below(3)
		for range s.Below(most + 1) {
			i := s.Instr(f.Regs)
			if s.Below(rate) == 0 {
				i = api.Instr{Op: 2, D: s.Below(f.Regs), A: s.Below(f.Regs)}
			}
			b.Code = append(b.Code, i)
		}
	}
	return f
}

// DamageFunc changes a field of f.
func (s *Numbers) DamageFunc(f *api.Func) {
	fields := []*int{&f.Args, &f.Regs}
	var immediates []*int64
	for k := range f.Blocks {
		b := &f.Blocks[k]
		for j := range b.Code {
			i := &b.Code[j]
			fields = append(fields, &i.Op, &i.D, &i.A, &i.B)
			immediates = append(immediates, &i.Imm)
		}
		fields = append(fields, &b.Term.Kind, &b.Term.A, &b.Term.To, &b.Term.Else)
	}
	if n := s.Below(len(fields) + len(immediates)); n < len(fields) {
		*fields[n] = s.Below(8) - 2
	} else {
		*immediates[n-len(fields)] = int64(s.Below(3))
	}
}

// MFunc returns a small valid allocated function.
func (s *Numbers) MFunc() api.MFunc {
	f := api.MFunc{Regs: 1 + s.Below(4), Slots: 1 + s.Below(4)}
	f.Args = s.Below(f.Slots + 1)
	return s.withBlocks(f, 1+s.Below(4))
}

// withBlocks returns f with this number of small valid blocks.
func (s *Numbers) withBlocks(f api.MFunc, blocks int) api.MFunc {
	for range blocks {
		var b api.MBlock
		for range s.Below(6) {
			b.Code = append(b.Code, s.Mach(f.Regs, f.Slots))
		}
		b.Term = s.Term(f.Regs, blocks)
		f.Blocks = append(f.Blocks, b)
	}
	return f
}

// WholeFunc returns a copy of f with the unused capacity of its slices.
func WholeFunc(f api.Func) api.Func {
	blocks := slices.Clone(f.Blocks[:cap(f.Blocks)])
	for k, b := range blocks {
		blocks[k].Code = slices.Clone(b.Code[:cap(b.Code)])
	}
	f.Blocks = blocks
	return f
}

// WholeMFunc returns a copy of f with the unused capacity of its slices.
func WholeMFunc(f api.MFunc) api.MFunc {
	blocks := slices.Clone(f.Blocks[:cap(f.Blocks)])
	for k, b := range blocks {
		blocks[k].Code = slices.Clone(b.Code[:cap(b.Code)])
	}
	f.Blocks = blocks
	return f
}

// SpoilFunc changes everything in the slices of f and in their unused capacity.
func SpoilFunc(f api.Func) {
	blocks := f.Blocks[:cap(f.Blocks)]
	for _, b := range blocks {
		clear(b.Code[:cap(b.Code)])
	}
	clear(blocks)
}

// SameFunc reports whether a and b are the same function. Nil and empty slices are the same.
func SameFunc(a, b api.Func) bool {
	return a.Args == b.Args && a.Regs == b.Regs && slices.EqualFunc(a.Blocks, b.Blocks, func(p, q api.Block) bool {
		return p.Term == q.Term && slices.Equal(p.Code, q.Code)
	})
}

// SameMFunc reports whether a and b are the same allocated function.
func SameMFunc(a, b api.MFunc) bool {
	return a.Args == b.Args && a.Regs == b.Regs && a.Slots == b.Slots && slices.EqualFunc(a.Blocks, b.Blocks, func(p, q api.MBlock) bool {
		return p.Term == q.Term && slices.Equal(p.Code, q.Code)
	})
}
