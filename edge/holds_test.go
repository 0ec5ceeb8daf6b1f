package edge

import (
	"slices"
	"testing"

	"regcert/api"
	"regcert/execute"
	"regcert/interp"
	"regcert/testkit"
)

// starts returns the initial runs of two functions with these sizes, which never end.
func starts(t *testing.T, n sizes, args []int64) (api.Run, api.Run) {
	t.Helper()
	loop := api.Term{Kind: api.Jump}
	a, err := interp.Start(api.Func{Args: len(args), Regs: n.vregs, Blocks: []api.Block{{Term: loop}}}, args)
	if err != api.OK {
		t.Fatalf("Start of the source function: %d", err)
	}
	b, err := execute.Start(api.MFunc{Args: len(args), Regs: n.regs, Slots: n.slots, Blocks: []api.MBlock{{Term: loop}}}, args)
	if err != api.OK {
		t.Fatalf("Start of the allocated function: %d", err)
	}
	return a, b
}

// holding returns the pairs that hold initially for each of the lists of arguments.
func holding(t *testing.T, n sizes, lists [][]int64) []api.Pair {
	t.Helper()
	all := n.pairs()
	for _, args := range lists {
		a, b := starts(t, n, args)
		all = slices.DeleteFunc(all, func(q api.Pair) bool { return a.Regs[q.V] != execute.Read(b, q.L) })
	}
	return all
}

// argumentLists returns lists of arguments: equal ones, different ones that are not 0, and others. Whatever differs for some arguments differs for these.
func argumentLists(s *testkit.Numbers, args int) [][]int64 {
	different := make([]int64, args)
	for k := range different {
		different[k] = int64(k) + 1
	}
	return [][]int64{make([]int64, args), different, s.Values(args), s.Values(args)}
}

// P15.5: the initial pairs are exactly those that hold initially for all arguments.
func TestHoldInitially(t *testing.T) {
	s := testkit.Numbers(5)
	for args := range 4 {
		for vregs := args; vregs < args+3; vregs++ {
			for slots := args; slots < args+3; slots++ {
				for regs := range 4 {
					n := sizes{1, vregs, regs, slots}
					hold, all := holding(t, n, argumentLists(&s, args)), All(args, vregs, regs, slots)
					if !slices.Equal(hold, all) {
						t.Errorf("%d arguments, %v: %v hold, and %v are initial", args, n, hold, all)
					}
				}
			}
		}
	}
}

// P15.3, P15.5: an invariant passes at the entry exactly if all its pairs hold initially.
func TestEntryHolds(t *testing.T) {
	s := testkit.Numbers(6)
	for range 2000 {
		args := s.Below(4)
		n := sizes{1, args + s.Below(3), s.Below(4), args + s.Below(3)}
		hold := holding(t, n, argumentLists(&s, args))
		w := invariants(&s, n)[0]
		k := slices.IndexFunc(w, func(q api.Pair) bool { return !slices.Contains(hold, q) })
		want := outcome{}
		if k >= 0 {
			want = outcome{w[k], api.ErrEntry}
		}
		outcomeOf(Entry(w, args)).expect(t, "Entry", want)
	}
}
