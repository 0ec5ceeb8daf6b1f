package funccode

import (
	"regcert/api"
	"regcert/cursor"
	"regcert/instrcode"
	"regcert/testkit"
	"regcert/varint"
)

// written returns what put writes.
func written(put func(w *cursor.Writer)) []byte {
	var w cursor.Writer
	put(&w)
	return w.Out()
}

func funcOut(f api.Func) []byte { return written(func(w *cursor.Writer) { PutFunc(w, f) }) }

func mfuncOut(f api.MFunc) []byte { return written(func(w *cursor.Writer) { PutMFunc(w, f) }) }

// funcBytes is the encoding of f by the wording of the definition.
func funcBytes(f api.Func) []byte {
	b := testkit.Digits(f.Args, f.Regs, len(f.Blocks))
	for _, block := range f.Blocks {
		b = append(b, testkit.Digits(len(block.Code))...)
		for _, i := range block.Code {
			b = append(b, written(func(w *cursor.Writer) { instrcode.PutInstr(w, i) })...)
		}
		b = append(b, written(func(w *cursor.Writer) { instrcode.PutTerm(w, block.Term) })...)
	}
	return b
}

// mfuncBytes is the encoding of f by the wording of the definition.
func mfuncBytes(f api.MFunc) []byte {
	b := testkit.Digits(f.Args, f.Regs, f.Slots, len(f.Blocks))
	for _, block := range f.Blocks {
		b = append(b, testkit.Digits(len(block.Code))...)
		for _, i := range block.Code {
			b = append(b, written(func(w *cursor.Writer) { instrcode.PutMach(w, i) })...)
		}
		b = append(b, written(func(w *cursor.Writer) { instrcode.PutTerm(w, block.Term) })...)
	}
	return b
}

// countModel is what reading a count at the beginning of b must result in, by the wording of P2.2, with its length.
func countModel(b []byte, size int) (int, int, api.Errno) {
	v, n, e := varint.Get(b)
	switch {
	case e != api.OK:
		return 0, 0, e
	case v > api.Limit:
		return 0, 0, api.ErrLimit
	case int(v)*size > len(b)-n:
		return 0, 0, api.ErrShort
	}
	return int(v), n, api.OK
}

// numbersModel is what reading this many numbers at the beginning of b must result in, with their length.
func numbersModel(b []byte, many int) ([]int, int, api.Errno) {
	var l []int
	at := 0
	for range many {
		v, n, e := countModel(b[at:], 0)
		if e != api.OK {
			return nil, 0, e
		}
		l = append(l, v)
		at += n
	}
	return l, at, api.OK
}

// part is what one of layer 17's functions reads at the beginning of b, with its length.
func part[V any](b []byte, read func(c *cursor.Cursor) V) (V, int, api.Errno) {
	// An opcode and three integers never have more bytes than these, and a cursor copies all that it is given.
	c := cursor.New(b[:min(len(b), 31)])
	v := read(c)
	return v, c.At(), c.Err()
}

// funcModel is what reading a source function at the beginning of b must result in, by the wording of P18.2, with its length.
func funcModel(b []byte) (api.Func, int, api.Errno) {
	l, at, e := numbersModel(b, 2)
	if e != api.OK {
		return api.Func{}, 0, e
	}
	f := api.Func{Args: l[0], Regs: l[1]}
	if f.Args > f.Regs {
		return api.Func{}, 0, api.ErrReg
	}
	blocks, n, e := countModel(b[at:], 3)
	if e == api.OK && blocks == 0 {
		e = api.ErrCount
	}
	at += n
	sum := 0
	for k := 0; k < blocks && e == api.OK; k++ {
		var block api.Block
		block, n, e = blockModel(b[at:], f.Regs, blocks, &sum)
		at += n
		f.Blocks = append(f.Blocks, block)
	}
	if e != api.OK {
		return api.Func{}, 0, e
	}
	return f, at, e
}

// blockModel is funcModel for a block, with the sum of the numbers of instructions up to it.
func blockModel(b []byte, regs, blocks int, sum *int) (api.Block, int, api.Errno) {
	count, at, e := countModel(b, 2)
	if *sum += count; e == api.OK && *sum > api.Limit {
		e = api.ErrLimit
	}
	var block api.Block
	for k := 0; k < count && e == api.OK; k++ {
		var i api.Instr
		var n int
		i, n, e = part(b[at:], func(c *cursor.Cursor) api.Instr { return instrcode.Instr(c, regs) })
		at += n
		block.Code = append(block.Code, i)
	}
	if e != api.OK {
		return block, 0, e
	}
	term, n, e := part(b[at:], func(c *cursor.Cursor) api.Term { return instrcode.Term(c, regs, blocks) })
	block.Term = term
	return block, at + n, e
}

// mfuncModel is what reading an allocated function at the beginning of b must result in, by the wording of P18.3, with its length.
func mfuncModel(b []byte) (api.MFunc, int, api.Errno) {
	l, at, e := numbersModel(b, 3)
	if e != api.OK {
		return api.MFunc{}, 0, e
	}
	f := api.MFunc{Args: l[0], Regs: l[1], Slots: l[2]}
	if f.Args > f.Slots {
		return api.MFunc{}, 0, api.ErrLoc
	}
	blocks, n, e := countModel(b[at:], 3)
	if e == api.OK && blocks == 0 {
		e = api.ErrCount
	}
	at += n
	sum := 0
	for k := 0; k < blocks && e == api.OK; k++ {
		var block api.MBlock
		block, n, e = mblockModel(b[at:], f, blocks, &sum)
		at += n
		f.Blocks = append(f.Blocks, block)
	}
	if e != api.OK {
		return api.MFunc{}, 0, e
	}
	return f, at, e
}

// mblockModel is mfuncModel for a block of f, with the sum of the numbers of instructions up to it.
func mblockModel(b []byte, f api.MFunc, blocks int, sum *int) (api.MBlock, int, api.Errno) {
	count, at, e := countModel(b, 2)
	if *sum += count; e == api.OK && *sum > api.Limit {
		e = api.ErrLimit
	}
	var block api.MBlock
	moves := 0
	for k := 0; k < count && e == api.OK; k++ {
		var i api.Mach
		var n int
		i, n, e = part(b[at:], func(c *cursor.Cursor) api.Mach { return instrcode.Mach(c, f.Regs, f.Slots) })
		at += n
		block.Code = append(block.Code, i)
		if i.Op != 18 {
			moves = 0
		} else if moves++; moves > 64 {
			e = api.ErrMoves
		}
	}
	if e != api.OK {
		return block, 0, e
	}
	term, n, e := part(b[at:], func(c *cursor.Cursor) api.Term { return instrcode.Term(c, f.Regs, blocks) })
	block.Term = term
	return block, at + n, e
}
