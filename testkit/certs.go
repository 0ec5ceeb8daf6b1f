package testkit

import (
	"slices"

	"regcert/api"
)

// place returns a location that is in range for positive numbers of registers and slots.
func (s *Numbers) place(regs, slots int) api.Loc {
	if s.Below(2) == 0 {
		return api.Loc(2 * s.Below(regs))
	}
	return api.Loc(2*s.Below(slots) + 1)
}

// Invariants returns small valid invariants for a number of blocks, and positive numbers of registers, machine registers and slots.
func (s *Numbers) Invariants(blocks, vregs, regs, slots int) [][]api.Pair {
	l := make([][]api.Pair, blocks)
	for k := range l {
		var pairs []api.Pair
		for range s.Below(5) {
			v := s.Below(vregs)
			for range 1 + s.Below(3) {
				pairs = append(pairs, api.Pair{V: v, L: s.place(regs, slots)})
			}
		}
		l[k] = OrderedPairs(pairs)
	}
	return l
}

// Cert returns a small valid certificate, which is unlikely to be accepted.
func (s *Numbers) Cert() api.Cert {
	f := s.Func()
	m := api.MFunc{Args: f.Args, Regs: 1 + s.Below(4), Slots: max(1, f.Args) + s.Below(4)}
	m = s.withBlocks(m, len(f.Blocks))
	return api.Cert{S: f, T: m, W: s.Invariants(len(f.Blocks), f.Regs, m.Regs, m.Slots)}
}

// SameInvariants reports whether a and b are the same invariants. Nil and empty slices are the same.
func SameInvariants(a, b [][]api.Pair) bool {
	return slices.EqualFunc(a, b, slices.Equal[[]api.Pair])
}

// SameCert reports whether a and b are the same certificate.
func SameCert(a, b api.Cert) bool {
	return SameFunc(a.S, b.S) && SameMFunc(a.T, b.T) && SameInvariants(a.W, b.W)
}

// RoomyCert returns a copy of c with elements behind the ends of all slices.
func RoomyCert(c api.Cert) api.Cert {
	jump := api.Term{Kind: 1, To: 9}
	c.S.Blocks, c.T.Blocks, c.W = slices.Clone(c.S.Blocks), slices.Clone(c.T.Blocks), slices.Clone(c.W)
	for k, b := range c.S.Blocks {
		c.S.Blocks[k].Code = roomy(b.Code, api.Instr{Op: 9, D: 1, A: 1, B: 1})
	}
	for k, b := range c.T.Blocks {
		c.T.Blocks[k].Code = roomy(b.Code, api.Mach{Op: 18, Dst: 2, Src: 2})
	}
	for k, l := range c.W {
		c.W[k] = roomy(l, api.Pair{V: 7, L: 7})
	}
	c.S.Blocks = roomy(c.S.Blocks, api.Block{Term: jump})
	c.T.Blocks = roomy(c.T.Blocks, api.MBlock{Term: jump})
	c.W = roomy(c.W, []api.Pair{{V: 9, L: 9}})
	return c
}

// roomy returns a copy of l with x behind its end.
func roomy[V any](l []V, x V) []V {
	return append(slices.Clone(l), x)[:len(l)]
}

// WholeCert returns a copy of c with the unused capacity of its slices.
func WholeCert(c api.Cert) api.Cert {
	w := slices.Clone(c.W[:cap(c.W)])
	for k, l := range w {
		w[k] = WholePairs(l)
	}
	return api.Cert{S: WholeFunc(c.S), T: WholeMFunc(c.T), W: w}
}
