package edge

import (
	"math"
	"slices"
	"testing"

	"regcert/api"
	"regcert/testkit"
)

// Locations are written as numbers, so that their definitions are compared too: register n is 2 * n, and slot n is 2 * n + 1.

func p(v int, l api.Loc) api.Pair               { return api.Pair{V: v, L: l} }
func set(l ...api.Pair) []api.Pair              { return l }
func list(l ...[]api.Pair) [][]api.Pair         { return l }
func outcomeOf(q api.Pair, e api.Errno) outcome { return outcome{q, e} }

// An outcome is what Entry and Implies return.
type outcome struct {
	pair api.Pair
	err  api.Errno
}

// expect compares two outcomes.
func (o outcome) expect(t *testing.T, what string, want outcome) {
	t.Helper()
	if o != want {
		t.Errorf("%s: %v, want %v", what, o, want)
	}
}

// initialByDefinition reports whether q is an initial pair, by the wording of the definition.
func initialByDefinition(q api.Pair, args int) bool {
	if q.V < args {
		return q.L%2 == 1 && int((q.L-1)/2) == q.V
	}
	return !(q.L%2 == 1 && int((q.L-1)/2) < args)
}

// The example of the chapter, and example 3 of the document.
func TestExamples(t *testing.T) {
	for _, q := range set(p(0, 1), p(1, 3), p(1, 0)) {
		if !Initial(q, 1) {
			t.Errorf("%v is an initial pair", q)
		}
	}
	for _, q := range set(p(0, 0), p(0, 3), p(1, 1)) {
		if Initial(q, 1) {
			t.Errorf("%v is not an initial pair", q)
		}
	}
	w := set(p(0, 1), p(1, 3))
	if err := Valid(list(w), 1, 2, 1, 2); err != api.OK {
		t.Errorf("Valid: %d", err)
	}
	outcomeOf(Entry(w, 1)).expect(t, "Entry", outcome{})
}

// P15.2: pairs around all small numbers of arguments, and extreme ones.
func TestInitial(t *testing.T) {
	for args := -1; args < 5; args++ {
		for v := range 7 {
			for l := range api.Loc(14) {
				checkInitial(t, p(v, l), args)
			}
		}
	}
	numbers := []int{0, 1, 2, 1<<32 - 1, 1 << 32, 1<<40 - 1, 1 << 40, 1<<41 - 1, 1 << 41, 1 << 61, 1<<62 - 1, 1 << 62, math.MaxInt - 1, math.MaxInt}
	for _, v := range numbers {
		for _, l := range numbers {
			for _, at := range []int{l, 2*v + 1, 2 * v, 2*v - 1} {
				if at < 0 {
					continue
				}
				for _, args := range slices.Concat(numbers, testkit.Around(v)) {
					checkInitial(t, p(v, api.Loc(at)), args)
				}
			}
		}
	}
}

// checkInitial compares Initial with the definition.
func checkInitial(t *testing.T, q api.Pair, args int) {
	t.Helper()
	if got, want := Initial(q, args), initialByDefinition(q, args); got != want {
		t.Errorf("Initial(%v, %d) = %v, want %v", q, args, got, want)
	}
}

// P15.2: the edge cases by hand.
func TestInitialTable(t *testing.T) {
	for _, x := range []struct {
		q    api.Pair
		args int
		want bool
	}{
		// Without arguments, everything is 0.
		{p(0, 0), 0, true}, {p(0, 1), 0, true}, {p(7, 3), 0, true}, {p(0, 0), -1, true}, {p(0, 1), -1, true}, {p(5, 1), math.MinInt, true},
		// Arguments are only in their own slots.
		{p(0, 1), 3, true}, {p(1, 3), 3, true}, {p(2, 5), 3, true}, {p(1, 1), 3, false}, {p(1, 5), 3, false}, {p(2, 7), 3, false}, {p(2, 4), 3, false}, {p(0, 0), 3, false},
		// The other registers are 0, as are machine registers and the other slots.
		{p(3, 7), 3, true}, {p(3, 9), 3, true}, {p(3, 0), 3, true}, {p(3, 4), 3, true}, {p(9, 7), 3, true}, {p(3, 5), 3, false}, {p(3, 1), 3, false}, {p(9, 3), 3, false},
		// The slot of a register as large as this one would not be a location.
		{p(1<<62, 1), math.MaxInt, false}, {p(math.MaxInt-1, math.MaxInt), math.MaxInt, false}, {p(math.MaxInt, math.MaxInt), math.MaxInt, false}, {p(math.MaxInt, math.MaxInt-1), math.MaxInt, true}, {p(1<<62-1, math.MaxInt), math.MaxInt, true},
	} {
		if got := Initial(x.q, x.args); got != x.want {
			t.Errorf("Initial(%v, %d) = %v", x.q, x.args, got)
		}
	}
}

// entryByDefinition is what Entry must return, by the wording of P15.3.
func entryByDefinition(w []api.Pair, args int) outcome {
	k := slices.IndexFunc(w, func(q api.Pair) bool { return !initialByDefinition(q, args) })
	if k < 0 {
		return outcome{}
	}
	return outcome{w[k], api.ErrEntry}
}

// P15.3: the first pair that is not initial, by hand.
func TestEntry(t *testing.T) {
	for _, x := range []struct {
		w    []api.Pair
		args int
		want outcome
	}{
		{nil, 0, outcome{}}, {set(), 3, outcome{}}, {nil, -1, outcome{}},
		{set(p(0, 0)), 0, outcome{}}, {set(p(0, 0)), 1, outcome{p(0, 0), api.ErrEntry}},
		{set(p(0, 0), p(0, 1)), 1, outcome{p(0, 0), api.ErrEntry}}, {set(p(0, 1), p(0, 2)), 1, outcome{p(0, 2), api.ErrEntry}},
		{set(p(0, 1), p(1, 0), p(1, 1), p(1, 3), p(2, 1)), 1, outcome{p(1, 1), api.ErrEntry}},
		{set(p(0, 1), p(1, 3), p(2, 0), p(2, 5), p(9, 4), p(9, 9)), 2, outcome{}},
		{set(p(0, 1), p(1, 3), p(2, 0), p(2, 5), p(9, 3), p(9, 9)), 2, outcome{p(9, 3), api.ErrEntry}},
		// The pairs of an invariant that is not valid may be in any order.
		{set(p(9, 9), p(9, 3), p(2, 1), p(0, 1)), 2, outcome{p(9, 3), api.ErrEntry}}, {set(p(1, 3), p(0, 1), p(0, 1)), 2, outcome{}},
	} {
		outcomeOf(Entry(x.w, x.args)).expect(t, "Entry", x.want)
	}
}

// P15.3: random invariants of initial pairs, with none, one or several others anywhere.
func TestEntryRandom(t *testing.T) {
	s := testkit.Numbers(1)
	for range 3000 {
		args := s.Below(5)
		var w []api.Pair
		for len(w) < 12 {
			if q := p(s.Below(7), api.Loc(s.Below(14))); initialByDefinition(q, args) {
				w = append(w, q)
			}
		}
		outcomeOf(Entry(w, args)).expect(t, "Entry of initial pairs", outcome{})
		for range s.Below(4) {
			w[s.Below(len(w))] = p(s.Below(7), api.Loc(s.Below(14)))
		}
		outcomeOf(Entry(w, args)).expect(t, "Entry of some other pairs", entryByDefinition(w, args))
	}
}

// The pairs of small sets: the bit k of a mask stands for pair k.
var universe = [...]api.Pair{{V: -1, L: 2}, {V: 0, L: -1}, {V: 0, L: 0}, {V: 0, L: 3}, {V: 1, L: 0}, {V: 2, L: 3}}

// small returns the pairs of the mask in their order, with unused capacity.
func small(mask int) []api.Pair {
	return testkit.PairsOf(universe[:], mask)
}

// P15.3: Implies, for all pairs of small sets.
func TestImplies(t *testing.T) {
	for out := range 1 << len(universe) {
		for w := range 1 << len(universe) {
			want := outcome{}
			if missing := small(w &^ out); len(missing) > 0 {
				want = outcome{missing[0], api.ErrEdge}
			}
			outcomeOf(Implies(small(out), small(w))).expect(t, "Implies", want)
		}
	}
	// The first pair that is missing may be the zero pair.
	outcomeOf(Implies(nil, set(p(0, 0)))).expect(t, "the zero pair", outcome{p(0, 0), api.ErrEdge})
	outcomeOf(Implies(nil, nil)).expect(t, "no pairs", outcome{})
	outcomeOf(Implies(set(p(0, 1)), set())).expect(t, "no pairs in the invariant", outcome{})
}

// sizes are the numbers of blocks, registers, machine registers and slots.
type sizes struct {
	blocks, vregs, regs, slots int
}

// inRange reports whether l is a location in range, by the wording of layer 4.
func (n sizes) inRange(l api.Loc) bool {
	switch {
	case l < 0:
		return false
	case l%2 == 0:
		return int(l/2) < n.regs
	}
	return int((l-1)/2) < n.slots
}

// pairs returns all pairs of registers and locations in range, in ascending order.
func (n sizes) pairs() []api.Pair {
	var all []api.Pair
	for v := range n.vregs {
		for l := range api.Loc(2*n.regs + 2*n.slots) {
			if n.inRange(l) {
				all = append(all, p(v, l))
			}
		}
	}
	return all
}

// initialPairs is what All must return, by the wording of P15.4.
func (n sizes) initialPairs(args int) []api.Pair {
	return slices.DeleteFunc(n.pairs(), func(q api.Pair) bool { return !initialByDefinition(q, args) })
}

// P15.4: the edge cases by hand.
func TestAllTable(t *testing.T) {
	for _, x := range []struct {
		args, vregs, regs, slots int
		want                     []api.Pair
	}{
		{0, 0, 0, 0, nil}, {0, 0, 3, 3, nil}, {2, 0, 3, 3, nil}, {0, 3, 0, 0, nil}, {3, 3, 0, 0, nil}, {3, 3, 5, 0, nil},
		{0, 2, 1, 0, set(p(0, 0), p(1, 0))}, {0, 2, 0, 1, set(p(0, 1), p(1, 1))}, {0, 1, 1, 2, set(p(0, 0), p(0, 1), p(0, 3))}, {0, 1, 3, 1, set(p(0, 0), p(0, 1), p(0, 2), p(0, 4))},
		{1, 2, 2, 2, set(p(0, 1), p(1, 0), p(1, 2), p(1, 3))}, {2, 2, 2, 2, set(p(0, 1), p(1, 3))}, {2, 3, 1, 3, set(p(0, 1), p(1, 3), p(2, 0), p(2, 5))},
		// More arguments than registers, and than slots.
		{5, 2, 2, 2, set(p(0, 1), p(1, 3))}, {5, 9, 2, 2, set(p(0, 1), p(1, 3), p(5, 0), p(5, 2), p(6, 0), p(6, 2), p(7, 0), p(7, 2), p(8, 0), p(8, 2))}, {2, 3, 1, 1, set(p(0, 1), p(2, 0))}, {1024, 2, 2, 1, set(p(0, 1))},
	} {
		if got := All(x.args, x.vregs, x.regs, x.slots); !slices.Equal(got, x.want) {
			t.Errorf("All(%d, %d, %d, %d) = %v", x.args, x.vregs, x.regs, x.slots, got)
		}
	}
}

// P15.4: all small numbers. What All returns is a valid invariant, and holds at the entry.
func TestAll(t *testing.T) {
	for args := range 7 {
		for vregs := range 6 {
			for regs := range 6 {
				for slots := range 6 {
					got, want := All(args, vregs, regs, slots), sizes{1, vregs, regs, slots}.initialPairs(args)
					if !slices.Equal(got, want) {
						t.Errorf("All(%d, %d, %d, %d) = %v, want %v", args, vregs, regs, slots, got, want)
					}
					if err := Valid(list(got), 1, vregs, regs, slots); err != api.OK {
						t.Errorf("Valid of %v: %d", got, err)
					}
					outcomeOf(Entry(got, args)).expect(t, "Entry of all", outcome{})
				}
			}
		}
	}
}

// P15.4: the greatest numbers.
func TestAllLarge(t *testing.T) {
	const n = 1 << 10
	for _, x := range [][4]int{{0, n, n, n}, {n, n, n, n}, {1, n, n, n}, {n / 2, n, n, n}, {n - 1, n, n, n}, {0, n, 0, n}, {0, n, n, 0}, {n, n, 0, n}, {n, n, n, 0}, {3, n, 1, n}, {3, n, n, 1}, {0, 1, n, n}, {n, 1, n, n}} {
		got, want := All(x[0], x[1], x[2], x[3]), sizes{1, x[1], x[2], x[3]}.initialPairs(x[0])
		if !slices.Equal(got, want) {
			t.Errorf("All of %v: %d pairs, want %d", x, len(got), len(want))
		}
	}
	if all := len(All(0, n, n, n)); all != 1<<21 {
		t.Errorf("%d pairs without arguments", all)
	}
}

// rowOf returns n pairs of register v.
func rowOf(v, n int) []api.Pair {
	l := make([]api.Pair, n)
	for k := range l {
		l[k] = p(v, api.Loc(k))
	}
	return l
}

// P15.3: invariants with as many pairs as certificates may have.
func TestLarge(t *testing.T) {
	const n = api.Limit
	w := rowOf(0, n)
	outcomeOf(Entry(w, 0)).expect(t, "Entry", outcome{})
	outcomeOf(Entry(w, 1)).expect(t, "Entry with an argument", outcome{p(0, 0), api.ErrEntry})
	outcomeOf(Implies(w, w)).expect(t, "Implies", outcome{})
	outcomeOf(Implies(w[:n-1], w)).expect(t, "Implies, without the last pair", outcome{p(0, n-1), api.ErrEdge})
	outcomeOf(Implies(w[1:], w)).expect(t, "Implies, without the first pair", outcome{p(0, 0), api.ErrEdge})
	others := rowOf(1, n)
	outcomeOf(Entry(append(others[2:n:n], p(1, 1)), 1)).expect(t, "Entry, with a wrong pair at the end", outcome{p(1, 1), api.ErrEntry})
	outcomeOf(Implies(others, w)).expect(t, "Implies of other pairs", outcome{p(0, 0), api.ErrEdge})
}

// checkMemory checks that a call changes neither the invariants nor their unused capacity.
func checkMemory(t *testing.T, what string, w [][]api.Pair, call func()) {
	t.Helper()
	whole := slices.Clone(w[:cap(w)])
	before := make([][]api.Pair, len(whole))
	for k, l := range whole {
		before[k] = testkit.WholePairs(l)
	}
	call()
	for k, l := range w[:cap(w)] {
		if len(l) != len(whole[k]) || !slices.Equal(testkit.WholePairs(l), before[k]) {
			t.Errorf("%s changes invariant %d", what, k)
		}
	}
}

// P15.6: arguments and their unused capacity are not modified.
func TestArguments(t *testing.T) {
	for mask := range 1 << len(universe) {
		w := list(small(mask), small(^mask), small(0), small(5))[:2]
		checkMemory(t, "Valid", w, func() { Valid(w, 2, 3, 2, 2) })
		checkMemory(t, "Entry", w, func() { Entry(w[0], 1) })
		checkMemory(t, "Implies", w, func() { Implies(w[0], w[1]); Implies(w[0], w[0]) })
	}
}

// P15.6: two results of All share no memory.
func TestResults(t *testing.T) {
	for args := range 4 {
		first := All(args, 3, 3, 3)
		want := slices.Clone(first)
		testkit.SpoilPairs(first)
		if second := All(args, 3, 3, 3); !slices.Equal(second, want) {
			t.Errorf("All with %d arguments changes with its last result", args)
		}
	}
}
