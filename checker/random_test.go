package checker

import (
	"reflect"
	"slices"
	"testing"

	"regcert/api"
	"regcert/blockcheck"
	"regcert/edge"
	"regcert/execute"
	"regcert/interp"
	"regcert/testkit"
)

// K is the factor of P16.5.
const K = 65

// P16.1, P16.2, P16.3: many certificates, accepted ones, others and invalid ones, as by the wording.
func TestAsModel(t *testing.T) {
	seen := map[api.Errno]int{}
	certificates(1, 30000, func(_ *testkit.Numbers, c api.Cert) {
		if err, want := Valid(c), validModel(c); err != want {
			t.Fatalf("Valid(%+v) = %d, want %d", c, err, want)
		}
		r, want := Check(c), model(c)
		if r != want {
			t.Fatalf("Check(%+v) = %+v, want %+v", c, r, want)
		}
		seen[r.Err]++
	})
	for _, err := range []api.Errno{0, 20, 21, 22, 23} {
		if seen[err] < 500 {
			t.Errorf("only %d of the reports have the error %d", seen[err], err)
		}
	}
	for _, err := range []api.Errno{9, 10, 11, 12, 13, 14} {
		if seen[err] < 10 {
			t.Errorf("only %d of the reports have the error %d", seen[err], err)
		}
	}
}

// P16.3, P16.4, P5: each block and each edge of an accepted certificate is visited once, and the steps of all valid ones are at most the bound.
func TestVisits(t *testing.T) {
	certificates(2, 20000, func(s *testkit.Numbers, c api.Cert) {
		r := Check(c)
		if Valid(c) != 0 {
			return
		}
		most := []int{0, r.Largest, s.Below(1 << 20), 1 << 20}
		for _, n := range most {
			if got, want := Bound(c, n), boundModel(c, n); got != want {
				t.Fatalf("Bound(%+v, %d) = %d, want %d", c, n, got, want)
			}
		}
		if r.Steps > Bound(c, r.Largest) {
			t.Fatalf("%+v: %+v, with the bound %d", c, r, Bound(c, r.Largest))
		}
		edges := 0
		for _, b := range c.S.Blocks {
			edges += len(edgesOf(b.Term))
		}
		if r.Err == 0 && (r.Blocks != len(c.S.Blocks) || r.Edges != edges || r.Block != 0 || r.At != 0) {
			t.Fatalf("%+v is accepted with %+v", c, r)
		}
	})
}

// P16.2: certificates whose allocated function is correct, with invariants that hold, are accepted.
func TestAccepted(t *testing.T) {
	s := testkit.Numbers(3)
	for range 5000 {
		c := similar(&s)
		if r := Check(c); r.Err != 0 {
			t.Fatalf("%+v: %+v", c, r)
		}
	}
}

// agree compares the runs of both functions for n steps of the source function, by the wording of P16.5, and returns the state of the first one.
func agree(t *testing.T, c api.Cert, args []int64, n int) int {
	t.Helper()
	a, err := interp.Exec(c.S, args, n)
	if err != 0 {
		t.Fatalf("Exec of the source function: error %d", err)
	}
	b, err := execute.Exec(c.T, args, K*n)
	if err != 0 {
		t.Fatalf("Exec of the allocated function: error %d", err)
	}
	switch a.State {
	case api.Returned:
		if b.State != api.Returned || b.Value != a.Value || !slices.Equal(b.Trace, a.Trace) {
			t.Errorf("%+v, arguments %v, %d steps: the runs are %+v and %+v", c, args, n, a, b)
		}
	case api.Running:
		// A step emits one value at most, so that each beginning of the trace is the trace of a prefix of the run.
		if len(b.Trace) < len(a.Trace) || !slices.Equal(b.Trace[:len(a.Trace)], a.Trace) {
			t.Errorf("%+v, arguments %v, %d steps: the runs are %+v and %+v", c, args, n, a, b)
		}
	}
	return a.State
}

// P16.5, P2: accepted certificates, also damaged ones that are still accepted.
func TestSimulation(t *testing.T) {
	states, damaged := map[int]int{}, 0
	certificates(4, 8000, func(s *testkit.Numbers, c api.Cert) {
		if Check(c).Err != 0 {
			return
		}
		if len(c.T.Blocks) > 0 && s.Below(2) == 0 {
			damage(s, &c)
			if Check(c).Err != 0 {
				return
			}
			damaged++
		}
		for range 3 {
			args := s.Values(c.S.Args)
			for _, n := range []int{0, 1, 2, 3, 4, 5, 6, 7, 8, 9, 10, 20, 60} {
				states[agree(t, c, args, n)]++
			}
		}
	})
	for state := range 3 {
		if states[state] < 1000 {
			t.Errorf("only %d of the runs are in state %d", states[state], state)
		}
	}
	if damaged < 500 {
		t.Errorf("only %d certificates are accepted with damage", damaged)
	}
}

// P16.5: with as many moves as possible before each instruction and terminator, the allocated function needs all of the steps.
func TestFactor(t *testing.T) {
	moves := append(slices.Repeat([]api.Mach{move(2, 3)}, 63), move(0, 1))
	c := single(2, 2, 2, block(branch(0, 0, 1), instr(17, 0, 0, 0), instr(6, 0, 0, 1)), mblock(branch(0, 0, 1)), p(0, 1), p(1, 3))
	b := &c.T.Blocks[0]
	b.Code = slices.Concat(moves, []api.Mach{on(17, 0, 0, 0)}, moves, []api.Mach{on(6, 0, 0, 1), move(1, 0)}, moves[1:])
	c.S.Blocks = append(c.S.Blocks, block(ret(0), instr(17, 0, 1, 0)))
	c.T.Blocks = append(c.T.Blocks, mblock(ret(0), slices.Concat(moves, []api.Mach{on(17, 0, 1, 0)}, moves)...))
	c.W = append(c.W, c.W[0])
	if r := Check(c); r.Err != 0 {
		t.Fatalf("%+v", r)
	}
	for _, args := range [][]int64{{7, 1}, {1, 1}, {0, 5}, {-9, -3}} {
		for n := range 30 {
			agree(t, c, args, n)
		}
	}
	a, _ := interp.Exec(c.S, []int64{7, 1}, 100)
	if b, _ := execute.Exec(c.T, []int64{7, 1}, 100*K); a.State != api.Returned || b.State != api.Returned || b.Steps != K*a.Steps {
		t.Errorf("%d and %d steps", a.Steps, b.Steps)
	}
	// One move more is too many.
	b = &c.T.Blocks[1]
	b.Code = slices.Insert(b.Code, 0, move(2, 3))
	if r := Check(c); r != invalid(15) {
		t.Errorf("with one move more: %+v", r)
	}
}

// Example 9 of DOC.md: after a division by 0, the allocated function may do anything.
func TestStuck(t *testing.T) {
	b := block(ret(1), instr(8, 1, 0, 0), instr(17, 0, 1, 0))
	m := mblock(ret(1), move(0, 1), on(8, 1, 0, 0), on(17, 0, 1, 0))
	c := single(1, 2, 2, b, m, p(0, 1))
	expect(t, "a division", c, accepted(1, 0, 2+2+3+3+3+4+4, 3))
	for _, v := range []int64{0, 5} {
		want := api.Returned
		if v == 0 {
			want = api.Stuck
		}
		if state := agree(t, c, []int64{v}, 9); state != want {
			t.Errorf("with the argument %d, the state is %d", v, state)
		}
	}
}

// P7: if an invariant of an accepted certificate is replaced by a subset with which the block is still accepted and implies the invariants of its successors, the certificate is accepted, and otherwise it is not.
func TestSubsets(t *testing.T) {
	still, not := 0, 0
	s := testkit.Numbers(5)
	for range 6000 {
		c := similar(&s)
		k, rate := s.Below(len(c.W)), 2+s.Below(6)
		c.W[k] = slices.DeleteFunc(slices.Clone(c.W[k]), func(api.Pair) bool { return s.Below(rate) == 0 })
		r := blockcheck.Check(c.S.Blocks[k], c.T.Blocks[k], c.W[k], 1<<20)
		want, at := r.Err, r.At
		for n, to := range edgesOf(c.S.Blocks[k].Term) {
			if _, err := edge.Implies(r.Out, c.W[to]); err != 0 && want == 0 {
				want, at = err, n
			}
		}
		got := Check(c)
		if got.Err != want || want != 0 && (got.Block != k || got.At != at) {
			t.Fatalf("%+v with a subset for block %d: %+v, want %d at %d", c, k, got, want, at)
		}
		if want == 0 {
			still++
		} else {
			not++
		}
	}
	if still < 500 || not < 500 {
		t.Errorf("%d are still accepted, and %d are not", still, not)
	}
}

// P16.6: arguments and their unused capacity are not modified.
func TestMemory(t *testing.T) {
	certificates(6, 5000, func(_ *testkit.Numbers, c api.Cert) {
		c = testkit.RoomyCert(c)
		before, r := testkit.WholeCert(c), Check(c)
		Valid(c)
		Bound(c, 5)
		if again := Check(c); again != r {
			t.Errorf("%+v: first %+v, then %+v", before, r, again)
		}
		if !reflect.DeepEqual(testkit.WholeCert(c), before) {
			t.Errorf("%+v has changed to %+v", before, testkit.WholeCert(c))
		}
	})
}
