package checker

import (
	"slices"
	"testing"

	"regcert/api"
)

const limit = 1 << 20

// chain returns the certificate of n blocks that jump to the next one, of which the last one returns register 0.
func chain(n int) api.Cert {
	c := api.Cert{S: api.Func{Regs: 1}, T: api.MFunc{Regs: 1}}
	for k := range n {
		next := jump(k + 1)
		if k == n-1 {
			next = ret(0)
		}
		c.S.Blocks = append(c.S.Blocks, block(next))
		c.T.Blocks = append(c.T.Blocks, mblock(next))
		c.W = append(c.W, set(p(0, 0)))
	}
	return c
}

// P16.1, P16.2, P16.3: the greatest number of blocks.
func TestManyBlocks(t *testing.T) {
	c := chain(limit)
	expect(t, "2^20 blocks", c, accepted(limit, limit-1, 2+3*(limit-1)+2, 1))
	if got, want := Bound(c, 1), 3*(limit-1+limit+1)*2; got != want {
		t.Errorf("bound %d, want %d", got, want)
	}
	c.W[limit-1] = nil
	expect(t, "without the last pair", c, report{21, limit - 1, 0, limit, limit - 1, 2 + 3*(limit-1) - 1 + 1, 1})
	c.W[limit-2] = nil
	expect(t, "without the last two pairs", c, report{21, limit - 1, 0, limit, limit - 1, 2 + 3*(limit-3) + (1 + 1) + 1 + 1, 1})
	if err := Valid(chain(limit + 1)); err != api.ErrLimit {
		t.Errorf("2^20 + 1 blocks: error %d", err)
	}
}

// column returns the pairs of n registers and the location l.
func column(n int, l api.Loc) []api.Pair {
	var pairs []api.Pair
	for v := range n {
		pairs = append(pairs, p(v, l))
	}
	return pairs
}

// P16.1: the limit of pairs counts all invariants together, and comes behind the numbers of blocks.
func TestManyPairs(t *testing.T) {
	c := chain(3)
	c.S.Regs = limit
	c.W = [][]api.Pair{column(limit-2, 0), column(1, 0), column(1, 0)}
	expect(t, "2^20 pairs", c, accepted(3, 2, limit-1+limit+3+2, limit-2))
	for _, w := range [][][]api.Pair{{column(limit-2, 0), column(2, 0), column(1, 0)}, {column(1, 0), column(limit, 0), nil}, {column(limit, 9), column(1, 9), nil}} {
		c.W = w
		if err, r := Valid(c), Check(c); err != api.ErrLimit || r != invalid(api.ErrLimit) {
			t.Errorf("2^20 + 1 pairs: error %d and %+v", err, r)
		}
		c.W = w[:2]
		if err := Valid(c); err != api.ErrCount {
			t.Errorf("an invariant is missing: error %d", err)
		}
	}
}

// P16.2, P16.3: the size limit of the sets in a block is 2^20 pairs.
func TestSizeLimit(t *testing.T) {
	const half = limit / 2
	c := single(0, limit, 0, block(jump(0)), mblock(jump(0), move(2, 0), move(6, 8)), column(half, 0)...)
	expect(t, "2^20 pairs in a block", c, accepted(1, 1, half+1+(half+1)+(limit+1)+(limit+half+1), limit))
	c.W[0] = append(column(half, 0), p(half, 8))
	expect(t, "one pair more", c, report{24, 0, 0, 1, 0, half + 2 + half + 2, limit + 1})
	c.W[0] = column(limit, 0)
	expect(t, "twice as many pairs", c, report{24, 0, 0, 1, 0, limit + 1 + limit + 1, 2 * limit})
	c.W[0] = append(column(half, 0), p(half, 4))
	c.T.Blocks[0].Code[0], c.T.Blocks[0].Code[1] = move(8, 4), move(2, 0)
	expect(t, "at the second move", c, report{24, 0, 1, 1, 0, half + 2 + (half + 2) + (half + 3), limit + 2})
}

// P16.3, P16.4: more steps than 32 bits can count.
func TestManySteps(t *testing.T) {
	b, m := block(branch(9, 0, 0)), mblock(branch(0, 0, 0))
	for range limit {
		b.Code, m.Code = append(b.Code, instr(17, 0, limit-1, 0)), append(m.Code, on(17, 0, 0, 0))
	}
	c := single(0, limit, 0, b, m, column(limit, 0)...)
	const steps = (limit + 1) * (1 + limit + 1)
	expect(t, "emits", c, accepted(1, 2, steps+2*(1+2*limit), limit))
	if got, want := Bound(c, limit), 3*(2*limit+2+1+1)*(limit+1); got != want {
		t.Errorf("bound %d, want %d", got, want)
	}
	m.Code[limit-1].A = 1
	expect(t, "another register at the end", c, report{21, 0, limit - 1, 1, 0, steps - (limit + 1), limit})
	b.Code = append(slices.Clone(b.Code), b.Code[0])
	c.S.Blocks[0] = b
	if err := Valid(c); err != api.ErrLimit {
		t.Errorf("2^20 + 1 instructions: error %d", err)
	}
}
