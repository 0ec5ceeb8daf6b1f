package instrcode

import (
	"strings"

	"regcert/api"
	"regcert/cursor"
	"regcert/testkit"
	"regcert/varint"
)

// zigzag is the zigzag code of n by the wording of layer 1.
func zigzag(n int64) uint64 {
	if n >= 0 {
		return 2 * uint64(n)
	}
	return 2*uint64(-(n+1)) + 1
}

// instrBytes is the encoding of i by the wording of the definition.
func instrBytes(i api.Instr) []byte {
	uses, _ := testkit.InstrUses(i.Op)
	b := []byte{byte(i.Op)}
	if strings.Contains(uses, "D") {
		b = append(b, testkit.Digits(uint64(i.D))...)
	}
	if strings.Contains(uses, "A") {
		b = append(b, testkit.Digits(uint64(i.A))...)
	}
	if strings.Contains(uses, "B") {
		b = append(b, testkit.Digits(uint64(i.B))...)
	}
	if strings.Contains(uses, "I") {
		b = append(b, testkit.Digits(zigzag(i.Imm))...)
	}
	return b
}

// machBytes is the encoding of i by the wording of the definition.
func machBytes(i api.Mach) []byte {
	if i.Op == 18 {
		return append(append([]byte{18}, testkit.Digits(uint64(i.Dst))...), testkit.Digits(uint64(i.Src))...)
	}
	return instrBytes(api.Instr{Op: i.Op, D: i.D, A: i.A, B: i.B, Imm: i.Imm})
}

// termBytes is the encoding of t by the wording of the definition.
func termBytes(t api.Term) []byte {
	switch t.Kind {
	case 1:
		return append([]byte{1}, testkit.Digits(uint64(t.To))...)
	case 2:
		return append(append(append([]byte{2}, testkit.Digits(uint64(t.A))...), testkit.Digits(uint64(t.To))...), testkit.Digits(uint64(t.Else))...)
	}
	return append([]byte{3}, testkit.Digits(uint64(t.A))...)
}

// instrModel is what reading an instruction at the beginning of b must result in, by the wording of P17.2, with its length.
func instrModel(b []byte, regs int) (api.Instr, int, api.Errno) {
	if len(b) == 0 {
		return api.Instr{}, 0, api.ErrShort
	}
	uses, ok := testkit.InstrUses(int(b[0]))
	if !ok {
		return api.Instr{}, 0, api.ErrOpcode
	}
	i, at := api.Instr{Op: int(b[0])}, 1
	for _, field := range strings.Fields(uses) {
		v, n, e := varint.Get(b[at:])
		if e != api.OK {
			return api.Instr{}, 0, e
		}
		at += n
		if field != "I" && v >= uint64(regs) {
			return api.Instr{}, 0, api.ErrReg
		}
		switch field {
		case "D":
			i.D = int(v)
		case "A":
			i.A = int(v)
		case "B":
			i.B = int(v)
		case "I":
			i.Imm = varint.Unzigzag(v)
		}
	}
	return i, at, api.OK
}

// machModel is what reading an instruction of an allocated function at the beginning of b must result in, by the wording of P17.2, with its length.
func machModel(b []byte, regs, slots int) (api.Mach, int, api.Errno) {
	if len(b) > 0 && b[0] == 18 {
		return moveModel(b, regs, slots)
	}
	if len(b) > 0 && b[0] == 2 {
		return api.Mach{}, 0, api.ErrOpcode
	}
	i, n, e := instrModel(b, regs)
	return api.Mach{Op: i.Op, D: i.D, A: i.A, B: i.B, Imm: i.Imm}, n, e
}

// moveModel is machModel for a move.
func moveModel(b []byte, regs, slots int) (api.Mach, int, api.Errno) {
	at := 1
	var locs [2]uint64
	for k := range locs {
		v, n, e := varint.Get(b[at:])
		if e != api.OK {
			return api.Mach{}, 0, e
		}
		if v%2 == 0 && v/2 >= uint64(regs) || v%2 == 1 && v/2 >= uint64(slots) {
			return api.Mach{}, 0, api.ErrLoc
		}
		locs[k] = v
		at += n
	}
	if locs[0]%2 == 1 && locs[1]%2 == 1 {
		return api.Mach{}, 0, api.ErrLoc
	}
	return api.Mach{Op: 18, Dst: api.Loc(locs[0]), Src: api.Loc(locs[1])}, at, api.OK
}

// termModel is what reading a terminator at the beginning of b must result in, by the wording of P17.2, with its length.
func termModel(b []byte, regs, blocks int) (api.Term, int, api.Errno) {
	if len(b) == 0 {
		return api.Term{}, 0, api.ErrShort
	}
	uses, ok := testkit.TermUses(int(b[0]))
	if !ok {
		return api.Term{}, 0, api.ErrTerm
	}
	t, at := api.Term{Kind: int(b[0])}, 1
	for _, field := range strings.Fields(uses) {
		v, n, e := varint.Get(b[at:])
		if e != api.OK {
			return api.Term{}, 0, e
		}
		at += n
		switch {
		case field == "A" && v >= uint64(regs):
			return api.Term{}, 0, api.ErrReg
		case field != "A" && v >= uint64(blocks):
			return api.Term{}, 0, api.ErrTarget
		case field == "A":
			t.A = int(v)
		case field == "To":
			t.To = int(v)
		default:
			t.Else = int(v)
		}
	}
	return t, at, api.OK
}

// written returns what put writes.
func written(put func(w *cursor.Writer)) []byte {
	var w cursor.Writer
	put(&w)
	return w.Out()
}

func instrOut(i api.Instr) []byte { return written(func(w *cursor.Writer) { PutInstr(w, i) }) }

func machOut(i api.Mach) []byte { return written(func(w *cursor.Writer) { PutMach(w, i) }) }

func termOut(t api.Term) []byte { return written(func(w *cursor.Writer) { PutTerm(w, t) }) }
