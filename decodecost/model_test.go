package decodecost

import (
	"slices"
	"strings"

	"regcert/api"
	"regcert/location"
	"regcert/testkit"
	"regcert/varint"
)

func join(parts ...[]byte) []byte { return slices.Concat(parts...) }

// sectionOf is the encoding of a section by the wording of layer 3.
func sectionOf(id byte, contents []byte) []byte {
	return join([]byte{id}, testkit.Digits(len(contents)), contents)
}

// packed is the encoding of a certificate whose sections have these contents, by the wording of layer 20.
func packed(s, t, w []byte) []byte {
	return join([]byte{82, 67, 1}, sectionOf(1, s), sectionOf(2, t), sectionOf(3, w))
}

// input is what is left of an input of the model. The model leaves it at the first error by a panic with wrong.
type input struct{ left []byte }

type wrong struct{}

func refuse(bad bool) {
	if bad {
		panic(wrong{})
	}
}

func (in *input) byte() int {
	refuse(len(in.left) == 0)
	b := in.left[0]
	in.left = in.left[1:]
	return int(b)
}

func (in *input) uint() uint64 {
	v, n, e := varint.Get(in.left)
	refuse(e != api.OK)
	in.left = in.left[n:]
	return v
}

func (in *input) below(n int) int {
	v := in.uint()
	refuse(v >= uint64(n))
	return int(v)
}

// number reads a number of arguments, registers or slots.
func (in *input) number() int { return in.below(1<<20 + 1) }

// count reads the number of elements of at least size bytes, and adds it to sum.
func (in *input) count(size int, sum *int) int {
	n := in.number()
	refuse(n*size > len(in.left))
	*sum += n
	return n
}

// op reads an opcode and its fields.
func (in *input) op(regs, slots int, source bool) int {
	op := in.byte()
	if op == 18 && !source {
		dst, src := in.place(0, regs, slots), in.place(0, regs, slots)
		refuse(dst%2 == 1 && src%2 == 1)
		return op
	}
	uses, ok := testkit.InstrUses(op)
	refuse(!ok || op == 2 && !source)
	for _, field := range strings.Fields(uses) {
		if field == "I" {
			in.uint()
		} else {
			in.below(regs)
		}
	}
	return op
}

func (in *input) term(regs, blocks int) {
	uses, ok := testkit.TermUses(in.byte())
	refuse(!ok)
	for _, field := range strings.Fields(uses) {
		if field == "A" {
			in.below(regs)
		} else {
			in.below(blocks)
		}
	}
}

// place reads a location that is encoded as its difference from the location least.
func (in *input) place(least, regs, slots int) int {
	l := in.below(1<<40) + least
	refuse(!location.InRange(api.Loc(l), regs, slots))
	return l
}

// blocks reads the blocks of a function and returns their number.
func (in *input) blocks(regs, slots int, source bool, cost *Cost) int {
	n := in.count(3, &cost.Blocks)
	refuse(n == 0)
	all := 0
	for range n {
		ops := make([]int, in.count(2, &cost.Instrs))
		all += len(ops)
		refuse(all > 1<<20)
		for k := range ops {
			ops[k] = in.op(regs, slots, source)
			refuse(k >= 64 && !slices.ContainsFunc(ops[k-64:k+1], func(op int) bool { return op != 18 }))
		}
		in.term(regs, n)
	}
	return n
}

func (in *input) end() { refuse(len(in.left) > 0) }

// invariants reads this number of invariants.
func (in *input) invariants(n, vregs, regs, slots int, cost *Cost) {
	all := 0
	for range n {
		pairs := make([]api.Pair, in.count(2, &cost.Pairs))
		all += len(pairs)
		refuse(all > 1<<20)
		for k := range pairs {
			v, least := in.below(1<<40), 0
			if k > 0 && v == 0 {
				least = int(pairs[k-1].L) + 1
			}
			if k > 0 {
				v += pairs[k-1].V
			}
			refuse(v >= vregs)
			pairs[k] = api.Pair{V: v, L: api.Loc(in.place(least, regs, slots))}
		}
	}
}

// sections reads the sections 1, 2 and 3.
func (in *input) sections(cost *Cost) [3]input {
	var l [3]input
	for k := range l {
		refuse(in.byte() != k+1)
		size := in.uint()
		refuse(size > uint64(len(in.left)))
		cost.Bytes += int(size)
		l[k].left, in.left = in.left[:size], in.left[size:]
	}
	in.end()
	return l
}

// model is the cost of decoding b, by the wording of the definition and of the chapters whose errors end the decoding, and whether it has no error.
func model(b []byte) (cost Cost, ok bool) {
	defer func() {
		if thrown := recover(); thrown != nil {
			_ = thrown.(wrong)
		}
	}()
	in := input{b}
	refuse(in.byte() != 82 || in.byte() != 67 || in.byte() != 1)
	l := in.sections(&cost)
	s, t, w := &l[0], &l[1], &l[2]

	args, vregs := s.number(), s.number()
	refuse(args > vregs)
	blocks := s.blocks(vregs, 0, true, &cost)
	s.end()

	targs, regs, slots := t.number(), t.number(), t.number()
	refuse(targs > slots)
	tblocks := t.blocks(regs, slots, false, &cost)
	t.end()

	refuse(blocks != tblocks || args != targs)
	w.invariants(blocks, vregs, regs, slots, &cost)
	w.end()
	return cost, true
}
