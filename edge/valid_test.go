package edge

import (
	"math"
	"slices"
	"testing"

	"regcert/api"
	"regcert/testkit"
)

// valid calls Valid.
func (n sizes) valid(w [][]api.Pair) api.Errno {
	return Valid(w, n.blocks, n.vregs, n.regs, n.slots)
}

// model is what Valid must return, by the wording of P15.1.
func (n sizes) model(w [][]api.Pair) api.Errno {
	if len(w) != n.blocks {
		return api.ErrCount
	}
	if len(slices.Concat(w...)) > 1<<20 {
		return api.ErrLimit
	}
	for _, l := range w {
		for k, q := range l {
			if q.V < 0 || q.V >= n.vregs {
				return api.ErrReg
			}
			if !n.inRange(q.L) {
				return api.ErrLoc
			}
			if k > 0 && !(l[k-1].V < q.V || l[k-1].V == q.V && l[k-1].L < q.L) {
				return api.ErrOrder
			}
		}
	}
	return api.OK
}

// P15.1: the edge cases by hand, with 2 registers, 2 machine registers and 3 slots.
func TestValid(t *testing.T) {
	good := set(p(0, 0), p(0, 1), p(0, 2), p(0, 3), p(0, 5), p(1, 0), p(1, 1), p(1, 2), p(1, 3), p(1, 5))
	for k, x := range []struct {
		w      [][]api.Pair
		blocks int
		want   api.Errno
	}{
		{nil, 0, api.OK}, {list(), 0, api.OK}, {list(nil), 1, api.OK}, {list(nil, set(), nil), 3, api.OK}, {list(good), 1, api.OK},
		// Each invariant has an order of its own.
		{list(good, good), 2, api.OK}, {list(set(p(1, 5)), set(p(0, 0)), set(p(0, 0)), nil, good), 5, api.OK},
		// The number of invariants.
		{nil, 1, api.ErrCount}, {list(nil), 0, api.ErrCount}, {list(nil), 2, api.ErrCount}, {list(nil, nil), 1, api.ErrCount}, {nil, -1, api.ErrCount}, {nil, math.MinInt, api.ErrCount}, {list(nil), math.MaxInt, api.ErrCount}, {list(nil), 1<<32 + 1, api.ErrCount},
		// Registers.
		{list(set(p(2, 0))), 1, api.ErrReg}, {list(set(p(-1, 0))), 1, api.ErrReg}, {list(set(p(math.MaxInt, 0))), 1, api.ErrReg}, {list(set(p(math.MinInt, 0))), 1, api.ErrReg}, {list(set(p(1<<32, 0))), 1, api.ErrReg},
		// Locations.
		{list(set(p(0, 4))), 1, api.ErrLoc}, {list(set(p(0, 6))), 1, api.ErrLoc}, {list(set(p(0, 7))), 1, api.ErrLoc}, {list(set(p(0, -1))), 1, api.ErrLoc}, {list(set(p(0, -2))), 1, api.ErrLoc}, {list(set(p(0, math.MaxInt))), 1, api.ErrLoc}, {list(set(p(0, math.MinInt))), 1, api.ErrLoc}, {list(set(p(0, 1<<32+1))), 1, api.ErrLoc},
		// The order of pairs.
		{list(set(p(0, 0), p(0, 0))), 1, api.ErrOrder}, {list(set(p(0, 1), p(0, 0))), 1, api.ErrOrder}, {list(set(p(1, 0), p(0, 0))), 1, api.ErrOrder}, {list(set(p(1, 0), p(0, 1))), 1, api.ErrOrder}, {list(good, set(p(0, 0), p(1, 1), p(1, 1))), 2, api.ErrOrder}, {list(set(p(0, 0), p(1, 0), p(0, 1))), 1, api.ErrOrder},
		// The number of invariants is tested before their pairs.
		{list(set(p(9, 9))), 2, api.ErrCount},
		// Of a pair, first the register, then the location, then the order.
		{list(set(p(2, 4))), 1, api.ErrReg}, {list(set(p(1, 0), p(-1, 4))), 1, api.ErrReg}, {list(set(p(1, 0), p(-1, 0))), 1, api.ErrReg}, {list(set(p(1, 0), p(0, 4))), 1, api.ErrLoc}, {list(set(p(1, 0), p(1, -1))), 1, api.ErrLoc},
		// The first wrong pair, and the first wrong invariant.
		{list(set(p(0, 4), p(2, 0))), 1, api.ErrLoc}, {list(set(p(1, 0), p(0, 0), p(2, 0))), 1, api.ErrOrder}, {list(set(p(2, 0), p(0, 4))), 1, api.ErrReg}, {list(set(p(1, 0), p(0, 0)), set(p(2, 0))), 2, api.ErrOrder}, {list(good, set(p(0, 4)), set(p(2, 0))), 3, api.ErrLoc}, {list(nil, good, set(p(2, 0)), set(p(0, 4))), 4, api.ErrReg},
	} {
		if got := Valid(x.w, x.blocks, 2, 2, 3); got != x.want {
			t.Errorf("case %d: %d, want %d", k, got, x.want)
		}
	}
}

// P15.1: numbers of registers, machine registers and slots.
func TestValidSizes(t *testing.T) {
	for _, q := range testkit.EdgePairs() {
		w := list(set(q))
		for _, many := range testkit.Around(2) {
			for _, n := range []sizes{{1, many, 2, 2}, {1, math.MaxInt, many, 2}, {1, math.MaxInt, 2, many}, {1, 3, math.MaxInt, many}, {1, 3, many, math.MaxInt}, {many, 3, 3, 3}, {1, many, many, many}} {
				if got, want := n.valid(w), n.model(w); got != want {
					t.Errorf("%v for %v: %d, want %d", q, n, got, want)
				}
			}
		}
	}
}

// invariants returns random invariants that are valid for n, with small numbers of blocks, registers and locations.
func invariants(s *testkit.Numbers, n sizes) [][]api.Pair {
	w := make([][]api.Pair, n.blocks)
	for k := range w {
		w[k] = slices.DeleteFunc(n.pairs(), func(api.Pair) bool { return s.Below(3) > 0 })
	}
	return w
}

// damage changes something in a random invariant. The result may be valid nevertheless.
func damage(s *testkit.Numbers, w [][]api.Pair) {
	k := s.Below(len(w))
	l := w[k]
	if len(l) == 0 {
		w[k] = set(p(s.Below(6)-1, api.Loc(s.Below(12)-2)))
		return
	}
	at, other := s.Below(len(l)), s.Below(len(l))
	switch s.Below(5) {
	case 0:
		l[at].V = s.Below(6) - 1
	case 1:
		l[at].L = api.Loc(s.Below(12) - 2)
	case 2:
		l[at], l[other] = l[other], l[at]
	case 3:
		l[at] = l[other]
	case 4:
		w[k] = slices.Delete(l, at, at+1)
	}
}

// P15.1: random invariants, correct ones and damaged ones.
func TestValidRandom(t *testing.T) {
	s := testkit.Numbers(3)
	found := map[api.Errno]int{}
	for range 20000 {
		n := sizes{1 + s.Below(4), s.Below(5), s.Below(5), s.Below(5)}
		w := invariants(&s, n)
		if err := n.valid(w); err != api.OK {
			t.Fatalf("%v for %v: %d", w, n, err)
		}
		for range s.Below(4) {
			damage(&s, w)
		}
		n.blocks += s.Below(12) / 11
		got, want := n.valid(w), n.model(w)
		if got != want {
			t.Fatalf("%v for %v: %d, want %d", w, n, got, want)
		}
		found[got]++
	}
	for _, err := range []api.Errno{api.OK, api.ErrCount, api.ErrReg, api.ErrLoc, api.ErrOrder} {
		if found[err] < 100 {
			t.Errorf("error %d was found %d times", err, found[err])
		}
	}
}

// P15.1: the limit of pairs in total, in one invariant and in several. It is tested before the pairs, and behind the number of invariants.
func TestValidLimit(t *testing.T) {
	const n = 1 << 20
	row := rowOf(0, n)
	wrong := slices.Clone(row)
	wrong[0].V = -1
	many := make([][]api.Pair, n)
	for k := range many {
		many[k] = row[:1]
	}
	for k, x := range []struct {
		w    [][]api.Pair
		want api.Errno
	}{
		{list(row), api.OK}, {list(nil, row, nil), api.OK}, {list(row[:n/2], row[:n/2]), api.OK}, {list(row[:n-1], nil, row[:1]), api.OK}, {many, api.OK},
		{list(rowOf(0, n+1)), api.ErrLimit}, {list(row, row[:1]), api.ErrLimit}, {list(row[:1], nil, row), api.ErrLimit}, {list(row[:n/2], row[:n/2], nil, row[:1]), api.ErrLimit}, {append(many[:n-1:n-1], row[:2]), api.ErrLimit}, {list(row, row), api.ErrLimit},
		{list(wrong), api.ErrReg}, {list(wrong, row[:1]), api.ErrLimit}, {list(row[:1], wrong), api.ErrLimit}, {list(row[:n-1], wrong[:1]), api.ErrReg},
	} {
		if got := Valid(x.w, len(x.w), 1, n, n); got != x.want {
			t.Errorf("case %d: %d, want %d", k, got, x.want)
		}
		if got := Valid(x.w, len(x.w)+1, 1, n, n); got != api.ErrCount {
			t.Errorf("case %d, with another number of blocks: %d", k, got)
		}
	}
}
