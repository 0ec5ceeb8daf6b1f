package liveness

import (
	"reflect"
	"slices"
	"testing"

	"regcert/api"
	"regcert/interp"
	"regcert/testkit"
)

// functions calls f for n functions, some of them with more blocks and registers than others.
func functions(seed testkit.Numbers, n int, f func(s *testkit.Numbers, x api.Func)) {
	for k := range n {
		x := seed.CopyingFunc([]int{2, 4, 30}[k%3])
		if k%4 == 0 {
			x = sparse(&seed, 1+seed.Below(12), 1+seed.Below(8))
		}
		f(&seed, x)
	}
}

// sparse returns a valid function with this number of blocks, which have few instructions, so that paths are long.
func sparse(s *testkit.Numbers, blocks, regs int) api.Func {
	f := api.Func{Regs: regs, Args: s.Below(regs + 1)}
	for range blocks {
		b := api.Block{Term: s.Term(regs, blocks)}
		for range max(0, s.Below(4)-1) {
			b.Code = append(b.Code, s.Instr(regs))
		}
		f.Blocks = append(f.Blocks, b)
	}
	return f
}

// P23.1: all blocks with up to 3 of some instructions over 3 registers.
func TestAllBlocks(t *testing.T) {
	var some []api.Instr
	for v := range 3 {
		some = append(some, define(v), emit(v))
		for a := range 3 {
			some = append(some, copyOf(v, a), add(v, a, (a+1)%3))
		}
	}
	var extend func(code []api.Instr)
	extend = func(code []api.Instr) {
		for _, term := range []api.Term{jump(0), branch(1, 0, 0), ret(2)} {
			b := block(term, code...)
			expectBlock(t, b, usesModel(b, 3), defsModel(b, 3))
		}
		if len(code) < 3 {
			for _, i := range some {
				extend(append(code[:len(code):len(code)], i))
			}
		}
	}
	extend(nil)
}

// usesModel is what Uses must return, and defsModel what Defs must return, for a function with this number of registers.
func usesModel(b api.Block, regs int) []int {
	return which(regs, func(v int) bool { return usesFirst(b, v) })
}

func defsModel(b api.Block, regs int) []int {
	return which(regs, func(v int) bool { return defines(b.Code, v) })
}

// P23.1: the blocks of random functions, with all opcodes.
func TestBlocksAsModel(t *testing.T) {
	functions(23, 5000, func(_ *testkit.Numbers, f api.Func) {
		for _, b := range f.Blocks {
			expectBlock(t, b, usesModel(b, f.Regs), defsModel(b, f.Regs))
		}
	})
}

// expectModel checks that In and Out are as pathModel says.
func expectModel(t *testing.T, f api.Func) {
	t.Helper()
	var in [][]int
	for k := range f.Blocks {
		// The shortest path has no block twice.
		in = append(in, which(f.Regs, func(v int) bool { return pathModel(f, k, v, len(f.Blocks)) }))
	}
	expect(t, f, in, outModel(f, in))
}

// P23.2: all functions with up to 3 blocks that use or define register 0, or both, or neither.
func TestAllFunctions(t *testing.T) {
	codes := [][]api.Instr{nil, {emit(0)}, {define(0)}, {emit(0), define(0)}, {define(0), emit(0)}}
	for n := 1; n <= 3; n++ {
		terms := []api.Term{ret(1)}
		for to := range n {
			terms = append(terms, jump(to))
			for other := range n {
				terms = append(terms, branch(1, to, other))
			}
		}
		f := api.Func{Regs: 2, Blocks: make([]api.Block, n)}
		var fill func(k int)
		fill = func(k int) {
			if k == n {
				expectModel(t, f)
				return
			}
			for _, code := range codes {
				for _, term := range terms {
					f.Blocks[k] = block(term, code...)
					fill(k + 1)
				}
			}
		}
		fill(0)
	}
}

// P23.2: random functions; both models agree on the small ones.
func TestAsModel(t *testing.T) {
	live := 0
	functions(232, 10000, func(_ *testkit.Numbers, f api.Func) {
		in := make([][]int, len(f.Blocks))
		for v := range f.Regs {
			for k, is := range closureModel(f, v) {
				if is {
					in[k] = append(in[k], v)
					live++
				}
			}
		}
		expect(t, f, in, outModel(f, in))
		if len(f.Blocks) <= 6 {
			expectModel(t, f)
		}
	})
	if live < 10000 {
		t.Errorf("only %d registers are live", live)
	}
}

// P23.3: what is live at the entries follows from what is live at the exits.
func TestEquations(t *testing.T) {
	functions(233, 5000, func(_ *testkit.Numbers, f api.Func) {
		in, out := In(f), Out(f)
		for k, b := range f.Blocks {
			uses, defs := Uses(b), Defs(b)
			want := which(f.Regs, func(v int) bool {
				return slices.Contains(uses, v) || slices.Contains(out[k], v) && !slices.Contains(defs, v)
			})
			if !slices.Equal(in[k], want) {
				t.Errorf("%+v: at the entry of block %d, %v are live, want %v", f, k, in[k], want)
			}
		}
	})
}

// P23.3: registers that are not live at the entry of a block get other values whenever a run is there, and the run stays the same.
func TestRuns(t *testing.T) {
	changed, states := 0, map[int]int{}
	functions(234, 5000, func(s *testkit.Numbers, f api.Func) {
		in := In(f)
		a, _ := interp.Start(f, s.Values(f.Args))
		b := testkit.CloneRun(a)
		for a.State == api.Running && a.Steps < 100 {
			if a.At == 0 {
				changed += changeDead(s, b.Regs, in[b.Block])
			}
			a, b = interp.Step(f, a), interp.Step(f, b)
			visible := b
			visible.Regs = a.Regs
			if !testkit.SameRun(a, visible) {
				t.Errorf("%+v: the runs are %+v and %+v", f, a, b)
				return
			}
		}
		states[a.State]++
	})
	for state := range 3 {
		if states[state] < 300 || changed < 5000 {
			t.Errorf("%d runs are in state %d, and %d values have changed", states[state], state, changed)
		}
	}
}

// changeDead changes the values of all registers that are not live, and returns their number.
func changeDead(s *testkit.Numbers, values []int64, live []int) int {
	n := 0
	for v := range values {
		if !slices.Contains(live, v) {
			values[v] ^= 1 + int64(s.Below(1<<31))
			n++
		}
	}
	return n
}

// P23.4: functions and their unused capacity are not modified, and results share no memory, neither with other results nor within themselves.
func TestMemory(t *testing.T) {
	functions(235, 3000, func(_ *testkit.Numbers, f api.Func) {
		f = testkit.RoomyCert(api.Cert{S: f}).S
		before := testkit.WholeFunc(f)
		for _, of := range []func(api.Func) [][]int{In, Out, usesAll, defsAll} {
			l, want := of(f), of(f)
			separate(t, l, want)
			clear(l[:cap(l)])
			if again := of(f); !same(again, want) {
				t.Errorf("%+v: after the first result has changed, the next one is %v, want %v", f, again, want)
			}
		}
		if !reflect.DeepEqual(testkit.WholeFunc(f), before) {
			t.Errorf("%+v has changed to %+v", before, testkit.WholeFunc(f))
		}
	})
}

// usesAll returns what Uses returns for the blocks of f, and defsAll what Defs returns.
func usesAll(f api.Func) [][]int {
	var l [][]int
	for _, b := range f.Blocks {
		l = append(l, Uses(b))
	}
	return l
}

func defsAll(f api.Func) [][]int {
	var l [][]int
	for _, b := range f.Blocks {
		l = append(l, Defs(b))
	}
	return l
}

// separate checks that the slices of l, which is equal to want, share no memory: each is changed with its unused capacity, and all others are compared.
func separate(t *testing.T, l, want [][]int) {
	t.Helper()
	for k := range l {
		whole := l[k][:cap(l[k])]
		for j := range whole {
			whole[j] = ^whole[j]
		}
		l[k] = want[k]
		if !same(l, want) {
			t.Errorf("%v shares memory with the registers of block %d", want, k)
		}
	}
}

// Results are in ascending order and without repetition also where functions are unspecified, and there is no panic.
func TestInvalid(t *testing.T) {
	functions(236, 5000, func(s *testkit.Numbers, f api.Func) {
		for range 1 + s.Below(4) {
			s.DamageFunc(&f)
		}
		for _, l := range [][][]int{In(f), Out(f), usesAll(f), defsAll(f)} {
			if len(l) != len(f.Blocks) || slices.ContainsFunc(l, notAscending) {
				t.Errorf("%+v: %v", f, l)
			}
		}
	})
	for _, n := range testkit.Around(2) {
		for kind := range 5 {
			b := block(api.Term{Kind: kind, A: n, To: n, Else: n}, instr(kind, n, n, n), instr(n, n, n, n))
			f := api.Func{Args: n, Regs: n, Blocks: []api.Block{b, b}}
			if in, out := In(f), Out(f); len(in) != 2 || len(out) != 2 {
				t.Errorf("%+v: %v and %v", f, in, out)
			}
		}
	}
	if in, out := In(api.Func{}), Out(api.Func{}); len(in) != 0 || len(out) != 0 {
		t.Errorf("without blocks: %v and %v", in, out)
	}
}

// notAscending reports whether l is not strictly ascending.
func notAscending(l []int) bool {
	for k := range l {
		if k > 0 && l[k-1] >= l[k] {
			return true
		}
	}
	return false
}
