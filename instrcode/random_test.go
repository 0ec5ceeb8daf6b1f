package instrcode

import (
	"bytes"
	"math"
	"slices"
	"testing"

	"regcert/api"
	"regcert/cursor"
	"regcert/machine"
	"regcert/source"
	"regcert/testkit"
)

// compareInstr reads b as an instruction and compares it with the model. What is read must be valid, and b its encoding.
func compareInstr(t *testing.T, b []byte, regs int) {
	t.Helper()
	want, n, e := instrModel(b, regs)
	readInstr(t, b, regs, want, n, e)
	if e == api.OK && (source.Instr(want, regs) != api.OK || !bytes.Equal(instrOut(want), b[:n])) {
		t.Errorf("%v is read as %+v, which is not valid or has the encoding %v", b, want, instrOut(want))
	}
}

// compareMach does the same as an instruction of an allocated function.
func compareMach(t *testing.T, b []byte, regs, slots int) {
	t.Helper()
	want, n, e := machModel(b, regs, slots)
	readMach(t, b, regs, slots, want, n, e)
	if e == api.OK && (machine.Instr(want, regs, slots) != api.OK || !bytes.Equal(machOut(want), b[:n])) {
		t.Errorf("%v is read as %+v, which is not valid or has the encoding %v", b, want, machOut(want))
	}
}

// compareTerm does the same as a terminator.
func compareTerm(t *testing.T, b []byte, regs, blocks int) {
	t.Helper()
	want, n, e := termModel(b, regs, blocks)
	readTerm(t, b, regs, blocks, want, n, e)
	if e == api.OK && (source.Term(want, regs, blocks) != api.OK || !bytes.Equal(termOut(want), b[:n])) {
		t.Errorf("%v is read as %+v, which is not valid or has the encoding %v", b, want, termOut(want))
	}
}

// P17.2, P17.3: all first bytes, followed by up to four bytes.
func TestShortInputs(t *testing.T) {
	tails := [][]byte{nil}
	for from := 0; len(tails[from]) < 4; from++ {
		for _, last := range []byte{0, 1, 2, 3, 128, 129, 255} {
			tails = append(tails, append(slices.Clone(tails[from]), last))
		}
	}
	for first := range 256 {
		if first > 20 {
			tails = tails[:10] // nothing is read behind these
		}
		for k, tail := range tails {
			b := append([]byte{byte(first)}, tail...)
			regs, others := k%4, k/4%3
			compareInstr(t, b, regs)
			compareMach(t, b, regs, others)
			compareTerm(t, b, regs, others)
		}
	}
}

// P17.2: all numbers from 0 to 3 of registers, slots and blocks, and all small fields.
func TestSmallNumbers(t *testing.T) {
	for first := range byte(20) {
		for fields := range 4 * 4 * 4 {
			b := []byte{first, byte(fields % 4), byte(fields / 4 % 4), byte(fields / 16)}
			for regs := range 4 {
				compareInstr(t, b, regs)
				for others := range 4 {
					compareMach(t, b, regs, others)
					compareTerm(t, b, regs, others)
				}
			}
		}
	}
}

// edges are integers around those whose encodings become longer, and around the limits.
func edges() []uint64 {
	var l []uint64
	for shift := range 64 {
		l = append(l, 1<<shift-1, 1<<shift, 1<<shift+1)
	}
	return append(l, math.MaxUint64-1, math.MaxUint64)
}

// P17.2, P17.3: every field has values around the powers of 2, for numbers around them.
func TestEdgeFields(t *testing.T) {
	for _, v := range edges() {
		for _, n := range []int{0, 1, 2, 128, 129, 1<<14 + 1, api.Limit - 1, api.Limit} {
			field := testkit.Digits(v)
			for _, b := range [][]byte{
				join(1, field, []byte{0}), join(1, []byte{0}, field),
				join(5, field, []byte{0, 0}), join(5, []byte{0}, field, []byte{0}), join(5, []byte{0, 0}, field),
				join(17, field),
			} {
				compareInstr(t, b, n)
				compareMach(t, b, n, 0)
			}
			for _, b := range [][]byte{join(18, field, []byte{0}), join(18, []byte{0}, field), join(18, field, field)} {
				compareMach(t, b, n, 1)
				compareMach(t, b, 1, n)
				compareMach(t, b, n, n)
			}
			for _, b := range [][]byte{
				join(1, field), join(2, field, []byte{0, 0}), join(2, []byte{0}, field, []byte{0}), join(2, []byte{0, 0}, field), join(3, field),
			} {
				compareTerm(t, b, n, 1)
				compareTerm(t, b, 1, n)
			}
		}
	}
}

// P17.1, P17.2, P17.3: all instructions, moves and terminators for two registers, slots and blocks.
func TestAllSmall(t *testing.T) {
	seen := map[string]bool{}
	for _, op := range []int{1, 2, 3, 4, 5, 6, 7, 8, 9, 10, 11, 12, 13, 14, 15, 16, 17} {
		for fields := range 8 {
			for _, imm := range []int64{math.MinInt64, -65, -64, -1, 0, 1, 63, 64, math.MaxInt64} {
				i := api.Instr{Op: op, D: fields & 1, A: fields >> 1 & 1, B: fields >> 2, Imm: imm}
				if testkit.InstrError(i, 2) != api.OK {
					continue
				}
				b := instrOut(i)
				if !bytes.Equal(b, instrBytes(i)) || seen[string(b)] {
					t.Errorf("the encoding of %+v is %v, want %v, which no other one has", i, b, instrBytes(i))
				}
				seen[string(b)] = true
				readInstr(t, b, 2, i, len(b), api.OK)
			}
		}
	}
	if len(seen) != 2*9+3*4+12*8+2 {
		t.Errorf("%d instructions", len(seen))
	}
}

// P17.1, P17.2, P17.3: random instructions and terminators, and their encodings with damages, cut off anywhere.
func TestRandom(t *testing.T) {
	s := testkit.Numbers(17)
	for range 20000 {
		regs := []int{1, 2, 130, 20000, api.Limit}[s.Below(5)]
		others := []int{1, 2, 130, 20000, api.Limit}[s.Below(5)]
		i, m, e := s.Instr(regs), s.Mach(regs, others), s.Term(regs, others)
		wi, wm, we := instrBytes(i), machBytes(m), termBytes(e)
		if !bytes.Equal(instrOut(i), wi) || !bytes.Equal(machOut(m), wm) || !bytes.Equal(termOut(e), we) {
			t.Fatalf("the encodings of %+v, %+v, %+v are %v, %v, %v, want %v, %v, %v", i, m, e, instrOut(i), machOut(m), termOut(e), wi, wm, we)
		}
		readInstr(t, append(wi, byte(s.Below(256))), regs, i, len(wi), api.OK)
		readMach(t, append(wm, byte(s.Below(256))), regs, others, m, len(wm), api.OK)
		readTerm(t, append(we, byte(s.Below(256))), regs, others, e, len(we), api.OK)
		for k := range wi {
			readInstr(t, wi[:k], regs, api.Instr{}, 0, api.ErrShort)
		}
		for k := range wm {
			readMach(t, wm[:k], regs, others, api.Mach{}, 0, api.ErrShort)
		}
		for k := range we {
			readTerm(t, we[:k], regs, others, api.Term{}, 0, api.ErrShort)
		}
		for _, b := range [][]byte{wi, wm, we} {
			b = s.Damaged(b)
			compareInstr(t, b, regs)
			compareMach(t, b, regs, others)
			compareTerm(t, b, regs, others)
		}
	}
}

// P17.1, P17.2: what is written one after the other is read in the same order.
func TestSequence(t *testing.T) {
	s := testkit.Numbers(1717)
	var w cursor.Writer
	var instrs []api.Instr
	var machs []api.Mach
	var terms []api.Term
	for range 1000 {
		instrs = append(instrs, s.Instr(300))
		machs = append(machs, s.Mach(300, 200))
		terms = append(terms, s.Term(300, 1000))
		PutInstr(&w, instrs[len(instrs)-1])
		PutMach(&w, machs[len(machs)-1])
		PutTerm(&w, terms[len(terms)-1])
	}
	b := w.Out()
	before := slices.Clone(b)
	c := cursor.New(b)
	at := 0
	for k := range instrs {
		i, m, e := Instr(c, 300), Mach(c, 300, 200), Term(c, 300, 1000)
		at += len(instrBytes(instrs[k])) + len(machBytes(machs[k])) + len(termBytes(terms[k]))
		if i != instrs[k] || m != machs[k] || e != terms[k] || c.At() != at {
			t.Fatalf("%d: read %+v, %+v, %+v, offset %d, want %+v, %+v, %+v, %d", k, i, m, e, c.At(), instrs[k], machs[k], terms[k], at)
		}
	}
	c.End()
	if c.Err() != api.OK || !bytes.Equal(b, before) || !bytes.Equal(w.Out(), before) {
		t.Errorf("error %d, or reading has changed the bytes", c.Err())
	}
}
