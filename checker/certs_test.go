package checker

import (
	"slices"

	"regcert/api"
	"regcert/blockcheck"
	"regcert/edge"
	"regcert/pairset"
	"regcert/source"
	"regcert/testkit"
	"regcert/transfer"
)

// An allocator writes the allocated version of a source function. Each register has a home, a location where it is at the entry of each block. The last machine register is never a home.
type allocator struct {
	*testkit.Numbers
	regs, slots int
	homes       []api.Loc
	holds       []api.Pair
	pinned      []api.Loc
	mach        []api.Mach
}

// newAllocator returns an allocator with homes that are initial pairs, for f with enough slots for each register to be in some more.
func newAllocator(s *testkit.Numbers, f api.Func) *allocator {
	a := &allocator{Numbers: s, regs: 2 + s.Below(3), slots: 3*f.Regs + 3}
	for v := range f.Regs {
		home := api.Loc(2*v + 1)
		for v >= f.Args && (s.Below(2) == 0 || !a.vacant(home, f.Args)) {
			home = a.location()
		}
		a.homes = append(a.homes, home)
	}
	return a
}

// vacant reports whether l may be the next home of a register that is not an argument.
func (a *allocator) vacant(l api.Loc, args int) bool {
	argument := l%2 == 1 && int(l/2) < args
	return !argument && l != a.last() && !slices.Contains(a.homes, l)
}

// last returns the last machine register.
func (a *allocator) last() api.Loc {
	return api.Loc(2*a.regs - 2)
}

// location returns any location.
func (a *allocator) location() api.Loc {
	if a.Below(2) == 0 {
		return api.Loc(2 * a.Below(a.regs))
	}
	return api.Loc(2*a.Below(a.slots) + 1)
}

// move appends a move.
func (a *allocator) move(dst, src api.Loc) {
	a.mach = append(a.mach, move(dst, src))
	a.holds = transfer.Move(a.holds, dst, src)
}

// places returns the locations of register v.
func (a *allocator) places(v int) []api.Loc {
	var l []api.Loc
	for _, q := range a.holds {
		if q.V == v {
			l = append(l, q.L)
		}
	}
	return l
}

// disposable reports whether l may be overwritten: it is not pinned, and no register is only there.
func (a *allocator) disposable(l api.Loc) bool {
	return !slices.Contains(a.pinned, l) && !slices.ContainsFunc(a.holds, func(q api.Pair) bool { return q.L == l && len(a.places(q.V)) == 1 })
}

// spare returns a disposable slot other than l.
func (a *allocator) spare(l api.Loc) api.Loc {
	for {
		if at := api.Loc(2*a.Below(a.slots) + 1); at != l && a.disposable(at) {
			return at
		}
	}
}

// vacate moves what only l holds to a slot, and forgets what l holds, so that the slot is not overwritten before l is.
func (a *allocator) vacate(l api.Loc) {
	if !a.disposable(l) {
		from := l
		if l%2 == 1 {
			from = a.last()
			a.vacate(from)
			a.move(from, l)
		}
		a.move(a.spare(l), from)
	}
	a.holds = pairset.DropL(a.holds, l)
}

// register returns a machine register that is not pinned, and vacates it.
func (a *allocator) register() api.Loc {
	for {
		if l := api.Loc(2 * a.Below(a.regs)); !slices.Contains(a.pinned, l) {
			a.vacate(l)
			return l
		}
	}
}

// operand returns a machine register that holds register v, which it loads if it is in slots only, and pins it.
func (a *allocator) operand(v int) int {
	in := slices.DeleteFunc(a.places(v), func(l api.Loc) bool { return l%2 == 1 })
	if len(in) == 0 {
		in = append(in, a.register())
		a.move(in[0], a.places(v)[0])
	}
	at := in[a.Below(len(in))]
	a.pinned = append(a.pinned, at)
	return int(at / 2)
}

// wander appends a move that nothing asks for, with some probability.
func (a *allocator) wander() {
	for a.Below(4) == 0 {
		dst, src := a.location(), a.location()
		if (dst%2 == 0 || src%2 == 0) && a.disposable(dst) {
			a.move(dst, src)
		}
	}
}

// instruction appends what performs the instruction of the source block.
func (a *allocator) instruction(i api.Instr) {
	if i.Op == 2 {
		a.holds = transfer.Copy(a.holds, i.D, i.A)
		return
	}
	a.wander()
	m := api.Mach{Op: i.Op, Imm: i.Imm}
	if i.Op != 1 {
		m.A = a.operand(i.A)
	}
	if i.Op >= 5 && i.Op <= 16 {
		m.B = a.operand(i.B)
	}
	a.pinned = nil
	if i.Op != 17 {
		at := a.register()
		m.D = int(at / 2)
		a.holds = transfer.Define(a.holds, i.D, at)
	}
	a.mach = append(a.mach, m)
}

// restore brings each register home.
func (a *allocator) restore() {
	for v, home := range a.homes {
		if !slices.Contains(a.places(v), home) {
			a.vacate(home)
			from := a.places(v)[0]
			if home%2 == 1 && from%2 == 1 {
				a.pinned = append(a.pinned, home)
				from = a.scratch(v)
			}
			a.move(home, from)
		}
		a.pinned = append(a.pinned, home)
	}
}

// scratch loads register v, which is in slots only, to the last machine register.
func (a *allocator) scratch(v int) api.Loc {
	a.vacate(a.last())
	a.move(a.last(), a.places(v)[0])
	return a.last()
}

// block returns the allocated version of a block.
func (a *allocator) block(b api.Block) api.MBlock {
	a.holds, a.mach = a.home(), nil
	for _, i := range b.Code {
		a.instruction(i)
	}
	a.wander()
	a.restore()
	t := b.Term
	if t.Kind != 1 {
		t.A = a.operand(t.A)
	}
	a.pinned = nil
	return api.MBlock{Code: a.mach, Term: t}
}

// home returns the pairs of all registers and their homes.
func (a *allocator) home() []api.Pair {
	var l []api.Pair
	for v, at := range a.homes {
		l = append(l, p(v, at))
	}
	return l
}

// function returns the allocated version of f.
func (a *allocator) function(f api.Func) api.MFunc {
	m := api.MFunc{Args: f.Args, Regs: a.regs, Slots: a.slots}
	for _, b := range f.Blocks {
		m.Blocks = append(m.Blocks, a.block(b))
	}
	return m
}

// similar returns a certificate that is accepted, because its blocks are too short for too many moves: with the pairs of homes as invariants, or with the greatest ones.
func similar(s *testkit.Numbers) api.Cert {
	f := s.Func()
	for _, b := range f.Blocks {
		for k := range b.Code {
			if s.Below(4) == 0 {
				b.Code[k] = copyOf(s.Below(f.Regs), s.Below(f.Regs))
			}
		}
	}
	a := newAllocator(s, f)
	c := api.Cert{S: f, T: a.function(f)}
	for range f.Blocks {
		c.W = append(c.W, a.home())
	}
	if s.Below(2) == 0 {
		c.W = greatest(c)
	}
	return c
}

// A flow is invariants of a certificate that are still being found, for the blocks that are known to be entered.
type flow struct {
	api.Cert
	known []bool
}

// greatest returns large invariants with which the certificate is accepted, for one that is accepted: the greatest ones for the blocks that can be entered.
func greatest(c api.Cert) [][]api.Pair {
	f := flow{c, make([]bool, len(c.W))}
	f.W = slices.Clone(c.W)
	f.W[0] = edge.All(c.S.Args, c.S.Regs, c.T.Regs, c.T.Slots)
	for k, known := range f.known {
		if !known {
			f.known[k] = true
			f.spread()
		}
	}
	return f.W
}

// spread drops the pairs that do not hold at the ends of known blocks, until nothing changes.
func (f *flow) spread() {
	for changed := true; changed; {
		changed = false
		for k, b := range f.S.Blocks {
			if !f.known[k] {
				continue
			}
			out := blockcheck.Check(b, f.T.Blocks[k], f.W[k], api.Limit).Out
			for _, to := range source.Successors(b.Term) {
				changed = f.enter(to, out) || changed
			}
		}
	}
}

// enter drops the pairs of block k that are not in out, and reports whether something has changed.
func (f *flow) enter(k int, out []api.Pair) bool {
	if !f.known[k] {
		f.W[k], f.known[k] = out, true
		return true
	}
	n := len(f.W[k])
	f.W[k] = slices.DeleteFunc(slices.Clone(f.W[k]), func(q api.Pair) bool { return !slices.Contains(out, q) })
	return len(f.W[k]) < n
}

// damage changes a certificate a little. It remains valid, or becomes invalid in one of the last cases.
func damage(s *testkit.Numbers, c *api.Cert) {
	k := s.Below(len(c.W))
	b, w := &c.T.Blocks[k], c.W[k]
	at := s.Below(len(b.Code) + 1)
	switch s.Below(10) {
	case 0:
		b.Code = slices.Insert(b.Code, at, s.Mach(c.T.Regs, c.T.Slots))
	case 1:
		if at < len(b.Code) {
			b.Code = slices.Delete(b.Code, at, at+1)
		}
	case 2:
		if at < len(b.Code) {
			b.Code[at] = s.Mach(c.T.Regs, c.T.Slots)
		}
	case 3:
		b.Term = s.Term(c.T.Regs, len(c.W))
	case 4, 5:
		rate := 1 + s.Below(5)
		c.W[k] = slices.DeleteFunc(w, func(api.Pair) bool { return s.Below(rate) == 0 })
	case 6, 7:
		c.W[k] = testkit.OrderedPairs(append(w, p(s.Below(c.S.Regs), api.Loc(s.Below(2*min(c.T.Regs, c.T.Slots))))))
	case 8:
		*[]*int{&c.S.Args, &c.T.Args, &c.S.Regs, &c.T.Regs, &c.T.Slots, &c.S.Blocks[k].Term.A, &c.S.Blocks[k].Term.To, &b.Term.A, &b.Term.Else}[s.Below(9)] += s.Below(3) - 1
	case 9:
		damageInvariants(s, c, k)
	}
}

// damageInvariants changes the pairs of an invariant, or the number of blocks. The certificate is likely to be invalid.
func damageInvariants(s *testkit.Numbers, c *api.Cert, k int) {
	n := len(c.W)
	switch s.Below(6) {
	case 0:
		c.W = c.W[:n-1]
	case 1:
		c.W = append(c.W, nil)
	case 2:
		c.S.Blocks = append(c.S.Blocks, c.S.Blocks[k])
	case 3:
		c.T.Blocks = append(c.T.Blocks, c.T.Blocks[k])
	default:
		c.W[k] = append(c.W[k], p(s.Below(7)-1, api.Loc(s.Below(30)-1)))
	}
}

// certificates calls f for many certificates, some of them damaged.
func certificates(seed testkit.Numbers, n int, f func(s *testkit.Numbers, c api.Cert)) {
	for range n {
		c := similar(&seed)
		for range max(0, seed.Below(6)-3) {
			if len(c.W) > 0 && len(c.W) <= min(len(c.S.Blocks), len(c.T.Blocks)) && c.S.Regs > 0 && c.T.Regs > 0 && c.T.Slots > 0 {
				damage(&seed, &c)
			}
		}
		f(&seed, c)
	}
}
