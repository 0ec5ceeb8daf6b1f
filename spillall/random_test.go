package spillall

import (
	"reflect"
	"slices"
	"testing"

	"regcert/api"
	"regcert/checker"
	"regcert/execute"
	"regcert/interp"
	"regcert/machine"
	"regcert/testkit"
)

// functions calls f for many functions, of which most are valid.
func functions(seed testkit.Numbers, n int, f func(s *testkit.Numbers, x api.Func)) {
	for k := range n {
		x := seed.CopyingFunc([]int{3, 10, 60}[k%3])
		for range max(0, seed.Below(6)-3) {
			seed.DamageFunc(&x)
		}
		f(&seed, x)
	}
}

// P22.1, P22.2, P22.3: random functions, some of them damaged.
func TestAsModel(t *testing.T) {
	seen := map[api.Errno]int{}
	functions(22, 20000, func(_ *testkit.Numbers, f api.Func) {
		want, e := certModel(f)
		c, err := Cert(f)
		if err != e || !testkit.SameCert(c, want) {
			t.Errorf("%+v: %+v and error %d, want %+v and error %d", f, c, err, want, e)
		}
		if seen[e]++; e != api.OK && e != api.ErrMoves {
			return
		}
		for _, b := range f.Blocks {
			m := blockModel(b)
			expectBlock(t, b, m.Code, m.Term, machine.Moves(m.Code))
		}
		if r := checker.Check(c); e == api.OK && r.Err != api.OK {
			t.Errorf("%+v: the report is %+v", f, r)
		}
	})
	for _, e := range []api.Errno{api.OK, api.ErrOpcode, api.ErrReg, api.ErrTarget, api.ErrField, api.ErrMoves, api.ErrTerm} {
		if seen[e] < 100 {
			t.Errorf("the error %d is seen only %d times", e, seen[e])
		}
	}
}

// P22.3, P16.5: the runs of both functions.
func TestRunsAgree(t *testing.T) {
	states := map[int]int{}
	functions(223, 5000, func(s *testkit.Numbers, f api.Func) {
		c, err := Cert(f)
		if err != api.OK {
			return
		}
		args := s.Values(f.Args)
		for _, n := range []int{0, 1, 2, 5, 40, 200} {
			a, _ := interp.Exec(f, args, n)
			b, _ := execute.Exec(c.T, args, 65*n)
			states[a.State]++
			switch {
			case a.State == api.Returned && (b.State != a.State || b.Value != a.Value || !slices.Equal(b.Trace, a.Trace)),
				a.State == api.Running && (len(b.Trace) < len(a.Trace) || !slices.Equal(b.Trace[:len(a.Trace)], a.Trace)):
				t.Errorf("%+v, arguments %v, %d steps: the runs are %+v and %+v", f, args, n, a, b)
			}
		}
	})
	for state := range 3 {
		if states[state] < 1000 {
			t.Errorf("only %d of the runs are in state %d", states[state], state)
		}
	}
}

// P22.4: functions and their unused capacity are not modified, and results share no memory, neither with the function nor within themselves.
func TestMemory(t *testing.T) {
	functions(224, 5000, func(_ *testkit.Numbers, f api.Func) {
		f = testkit.RoomyCert(api.Cert{S: f}).S
		before := testkit.WholeFunc(f)
		c, _ := Cert(f)
		for _, b := range f.Blocks {
			m := Block(b)
			Moves(b)
			clear(m.Code[:cap(m.Code)])
		}
		if !reflect.DeepEqual(testkit.WholeFunc(f), before) {
			t.Errorf("%+v has changed to %+v", before, testkit.WholeFunc(f))
		}
		want := testkit.RoomyCert(c)
		testkit.SpoilFunc(f)
		if !testkit.SameCert(c, want) {
			t.Errorf("%+v shares memory with its certificate", before)
		}
		separate(t, c, want)
	})
}

// separate checks that the slices of c, which is equal to want, share no memory: each is cleared with its unused capacity, and all others are compared.
func separate(t *testing.T, c, want api.Cert) {
	t.Helper()
	for k := range c.W {
		clear(c.W[k][:cap(c.W[k])])
		c.W[k] = want.W[k]
		clear(c.T.Blocks[k].Code[:cap(c.T.Blocks[k].Code)])
		c.T.Blocks[k].Code = want.T.Blocks[k].Code
		clear(c.S.Blocks[k].Code[:cap(c.S.Blocks[k].Code)])
		c.S.Blocks[k].Code = want.S.Blocks[k].Code
		if !testkit.SameCert(c, want) {
			t.Errorf("%+v: what belongs to block %d shares memory with something else", want, k)
		}
	}
}

// P22.1: blocks that no valid function has do not cause a panic.
func TestAnyBlock(t *testing.T) {
	numbers := testkit.Around(5)
	for _, op := range testkit.Opcodes() {
		for _, n := range numbers {
			for _, kind := range []int{-1, 0, 1, 2, 3, 4} {
				b := block(code(instr(op, n, n, n)), api.Term{Kind: kind, A: n})
				if m := Block(b); len(m.Code) > 5 || Moves(b) > 5 {
					t.Errorf("%+v becomes %+v", b, m)
				}
				fails(t, "any block", single(5, 5, append(b.Code, instr(0, 0, 0, 0)), b.Term), instrError(op, n))
			}
		}
	}
}

// instrError is the error of the instruction with the opcode and the field n, or of the one after it, which has no opcode.
func instrError(op, n int) api.Errno {
	if e := testkit.InstrError(instr(op, n, n, n), 5); e != api.OK {
		return e
	}
	return api.ErrOpcode
}
