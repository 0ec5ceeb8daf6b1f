package funccode

import (
	"bytes"
	"runtime"
	"slices"
	"testing"

	"regcert/api"
	"regcert/cursor"
	"regcert/machine"
	"regcert/source"
	"regcert/testkit"
)

// compareFunc reads b as a source function and compares it with the model. What is read must be valid, and b its encoding.
func compareFunc(t *testing.T, b []byte) api.Errno {
	t.Helper()
	want, n, e := funcModel(b)
	readFunc(t, b, want, n, e)
	if e == api.OK && (source.Check(want) != api.OK || !bytes.Equal(funcOut(want), b[:n])) {
		t.Errorf("%v is read as %+v, which is not valid or has the encoding %v", shown(b), want, shown(funcOut(want)))
	}
	return e
}

// compareMFunc does the same as an allocated function.
func compareMFunc(t *testing.T, b []byte) api.Errno {
	t.Helper()
	want, n, e := mfuncModel(b)
	readMFunc(t, b, want, n, e)
	if e == api.OK && (machine.Check(want) != api.OK || !bytes.Equal(mfuncOut(want), b[:n])) {
		t.Errorf("%v is read as %+v, which is not valid or has the encoding %v", shown(b), want, shown(mfuncOut(want)))
	}
	return e
}

// P18.2, P18.3, P18.4: all short inputs over some bytes, alone and behind the beginnings of functions.
func TestShortInputs(t *testing.T) {
	tails := [][]byte{nil}
	for from := 0; len(tails[from]) < 5; from++ {
		for _, last := range []byte{0, 1, 2, 3, 17, 18, 128} {
			tails = append(tails, append(slices.Clone(tails[from]), last))
		}
	}
	seen := map[api.Errno]int{}
	for _, tail := range tails {
		seen[compareFunc(t, tail)]++
		seen[compareMFunc(t, tail)]++
		seen[compareFunc(t, join([]byte{1, 2, 1}, tail))]++
		seen[compareMFunc(t, join([]byte{1, 1, 1, 1}, tail))]++
		seen[compareFunc(t, join([]byte{0, 1, 2, 1, 17, 0, 1, 1}, tail))]++
		seen[compareMFunc(t, join([]byte{0, 2, 1, 2, 0, 3, 0}, tail))]++
	}
	for _, e := range []api.Errno{api.OK, api.ErrShort, api.ErrVarint, api.ErrOpcode, api.ErrReg, api.ErrLoc, api.ErrTarget, api.ErrCount, api.ErrTerm} {
		if seen[e] < 20 {
			t.Errorf("the error %d is seen only %d times", e, seen[e])
		}
	}
}

// P18.1, P18.2, P18.3, P18.4: random functions, their encodings cut off anywhere, and damaged ones.
func TestRandom(t *testing.T) {
	s := testkit.Numbers(18)
	seen := map[api.Errno]int{}
	for range 3000 {
		f, m := s.Func(), s.MFunc()
		fb, mb := funcBytes(f), mfuncBytes(m)
		if !bytes.Equal(funcOut(f), fb) || !bytes.Equal(mfuncOut(m), mb) {
			t.Fatalf("the encodings of %+v and %+v are %v and %v, want %v and %v", f, m, funcOut(f), mfuncOut(m), fb, mb)
		}
		readFunc(t, append(slices.Clone(fb), byte(s.Below(256))), f, len(fb), api.OK)
		readMFunc(t, append(slices.Clone(mb), byte(s.Below(256))), m, len(mb), api.OK)
		for k := range fb {
			failFunc(t, fb[:k], api.ErrShort)
		}
		for k := range mb {
			failMFunc(t, mb[:k], api.ErrShort)
		}
		for range 10 {
			fb, mb := s.Damaged(fb), s.Damaged(mb)
			seen[compareFunc(t, fb)]++
			seen[compareMFunc(t, mb)]++
			compareFunc(t, mb)
			compareMFunc(t, fb)
		}
	}
	for _, e := range []api.Errno{api.OK, api.ErrShort, api.ErrVarint, api.ErrLimit, api.ErrOpcode, api.ErrReg, api.ErrLoc, api.ErrTarget, api.ErrCount, api.ErrTerm} {
		if seen[e] < 20 {
			t.Errorf("the error %d is seen only %d times", e, seen[e])
		}
	}
}

// P18.3: random blocks of moves, often more than MaxMoves in a row, with errors between them.
func TestRandomMoves(t *testing.T) {
	s := testkit.Numbers(1818)
	seen := map[api.Errno]int{}
	for range 3000 {
		b := []byte{0, 1, 1, 2}
		for range 2 {
			n := 60 + s.Below(90)
			b = append(b, testkit.Digits(n)...)
			other, wrong := s.Below(n), s.Below(5*n)
			for k := range n {
				switch k {
				case other:
					b = append(b, 17, 0)
				case wrong:
					b = append(b, 18, 1, 1)
				default:
					b = append(b, moves(1)...)
				}
			}
			b = append(b, 3, 0)
		}
		seen[compareMFunc(t, b)]++
	}
	for _, e := range []api.Errno{api.OK, api.ErrMoves, api.ErrLoc} {
		if seen[e] < 100 {
			t.Errorf("the error %d is seen only %d times", e, seen[e])
		}
	}
}

// P18.1, P18.2, P18.3: what is written one after the other is read in the same order.
func TestSequence(t *testing.T) {
	s := testkit.Numbers(181818)
	var w cursor.Writer
	var funcs []api.Func
	var mfuncs []api.MFunc
	for range 500 {
		f, m := s.Func(), s.MFunc()
		funcs, mfuncs = append(funcs, f), append(mfuncs, m)
		PutFunc(&w, f)
		PutMFunc(&w, m)
	}
	b := w.Out()
	before := slices.Clone(b)
	c := cursor.New(b)
	at := 0
	for k := range funcs {
		f, m := Func(c), MFunc(c)
		at += len(funcBytes(funcs[k])) + len(mfuncBytes(mfuncs[k]))
		if !testkit.SameFunc(f, funcs[k]) || !testkit.SameMFunc(m, mfuncs[k]) || c.At() != at {
			t.Fatalf("%d: read %+v and %+v, offset %d, want %+v and %+v, %d", k, f, m, c.At(), funcs[k], mfuncs[k], at)
		}
	}
	c.End()
	if c.Err() != api.OK || !bytes.Equal(b, before) || !bytes.Equal(w.Out(), before) {
		t.Errorf("error %d, or reading has changed the bytes", c.Err())
	}
}

// limited is the encoding of a function that begins with these bytes, and whose blocks have these numbers of instructions.
func limited(begin []byte, counts ...int) []byte {
	b := join(begin, testkit.Digits(len(counts)))
	for _, n := range counts {
		b = join(b, testkit.Digits(n), bytes.Repeat([]byte{17, 0}, n), []byte{3, 0})
	}
	return b
}

// P18.2, P18.3: there may be 2^20 blocks, and 2^20 instructions in total.
func TestLimits(t *testing.T) {
	const limit = 1 << 20
	funcBegin, mfuncBegin := []byte{0, 1}, []byte{0, 1, 0}
	for _, counts := range [][]int{{limit}, {limit - 1, 1}, {limit / 2, 0, limit / 4, limit / 4}} {
		for _, e := range []api.Errno{compareFunc(t, limited(funcBegin, counts...)), compareMFunc(t, limited(mfuncBegin, counts...))} {
			if e != api.OK {
				t.Errorf("the error for %v instructions is %d", counts, e)
			}
		}
	}
	for _, counts := range [][]int{{limit + 1}, {limit, 1}, {limit - 1, 2}, {limit, 0, 0, 1}, {limit / 2, limit / 2, 1}} {
		failFunc(t, limited(funcBegin, counts...), api.ErrLimit)
		failMFunc(t, limited(mfuncBegin, counts...), api.ErrLimit)
	}
	blocks := bytes.Repeat([]byte{0, 3, 0}, limit)
	for _, e := range []api.Errno{compareFunc(t, join(funcBegin, testkit.Digits(limit), blocks)), compareMFunc(t, join(mfuncBegin, testkit.Digits(limit), blocks))} {
		if e != api.OK {
			t.Errorf("the error for 2^20 blocks is %d", e)
		}
	}
}

// P18.2, P18.3: the sum of the numbers of instructions is compared with the limit after the number has been read, and before the instructions of the block are read.
func TestLimitOrder(t *testing.T) {
	full := append(bytes.Repeat([]byte{17, 0}, 1<<20), 3, 0)
	for _, begin := range [][]byte{{0, 1}, {0, 1, 0}} {
		fail := failFunc
		if len(begin) == 3 {
			fail = failMFunc
		}
		first := join(begin, testkit.Digits(3, 1<<20), full)
		fail(t, join(first, []byte{1, 0, 0}), api.ErrLimit)
		fail(t, join(first, []byte{1, 0, 0, 9, 9, 9}), api.ErrLimit)
		fail(t, join(first, []byte{1, 17}), api.ErrShort)
		fail(t, join(first, []byte{129, 0}), api.ErrVarint)
		fail(t, join(first, []byte{0, 9, 0, 1, 17, 0}), api.ErrTerm)
		fail(t, join(first, []byte{0, 3, 0, 1, 17, 0}), api.ErrLimit)
		fail(t, join(first, []byte{0, 3, 0, 0, 9, 0}), api.ErrTerm)
		wrong := join(begin, testkit.Digits(3, 1<<20), full[:len(full)-4], []byte{17, 1, 3, 0}, []byte{1, 17, 0, 3, 0})
		fail(t, wrong, api.ErrReg)
	}
}

// P18.4: no count is accepted, so that nothing is allocated, for which the bytes that are left do not suffice, and one is accepted for which they just do.
func TestCounts(t *testing.T) {
	for n := 1; n < 300; n++ {
		tail := make([]byte, 3*n-1)
		failFunc(t, join([]byte{0, 1}, testkit.Digits(n), tail), api.ErrShort)
		failMFunc(t, join([]byte{0, 1, 0}, testkit.Digits(n), tail), api.ErrShort)
		tail = append(tail, 0)
		failFunc(t, join([]byte{0, 1}, testkit.Digits(n), tail), api.ErrTerm)
		failMFunc(t, join([]byte{0, 1, 0}, testkit.Digits(n), tail), api.ErrTerm)
		code := make([]byte, max(2*n, 3))
		failFunc(t, join([]byte{0, 1, 1}, testkit.Digits(n), code), api.ErrOpcode)
		failMFunc(t, join([]byte{0, 1, 0, 1}, testkit.Digits(n), code), api.ErrOpcode)
		code = code[:2*n-1]
		failFunc(t, join([]byte{0, 1, 1}, testkit.Digits(n), code), api.ErrShort)
		failMFunc(t, join([]byte{0, 1, 0, 1}, testkit.Digits(n), code), api.ErrShort)
	}
}

// P4, P18.4: an input of a few bytes that announces many elements is rejected without allocating them.
func TestAllocation(t *testing.T) {
	for _, n := range []int{200, 1 << 20} {
		for _, begin := range [][]byte{{0, 1}, {0, 1, 1}, {0, 1, 0}, {0, 1, 0, 1}} {
			b := join(begin, testkit.Digits(n), make([]byte, 100))
			var before, after runtime.MemStats
			runtime.ReadMemStats(&before)
			for range 100 {
				Func(cursor.New(b))
				MFunc(cursor.New(b))
			}
			runtime.ReadMemStats(&after)
			if size := (after.TotalAlloc - before.TotalAlloc) / 200; size > 10000 {
				t.Errorf("reading %v allocates %d bytes", b, size)
			}
		}
	}
}

// whole returns f with unused capacity in all slices, which has non-zero values.
func whole(s *testkit.Numbers, f api.Func) api.Func {
	blocks := append(slices.Clone(f.Blocks), api.Block{Term: returns0}, api.Block{Code: []api.Instr{s.Instr(3)}})
	for k, b := range blocks {
		code := append(slices.Clone(b.Code), s.Instr(3), s.Instr(3))
		blocks[k].Code = code[:len(b.Code)]
	}
	f.Blocks = blocks[:len(f.Blocks)]
	return f
}

// wholeM does the same for an allocated function.
func wholeM(s *testkit.Numbers, f api.MFunc) api.MFunc {
	blocks := append(slices.Clone(f.Blocks), api.MBlock{Term: returns0}, api.MBlock{Code: []api.Mach{s.Mach(3, 3)}})
	for k, b := range blocks {
		code := append(slices.Clone(b.Code), s.Mach(3, 3), s.Mach(3, 3))
		blocks[k].Code = code[:len(b.Code)]
	}
	f.Blocks = blocks[:len(f.Blocks)]
	return f
}

// P18.5: functions are not modified, nor their unused capacity, and what has been written does not change with them.
func TestPutKeeps(t *testing.T) {
	s := testkit.Numbers(185)
	for range 300 {
		f, m := whole(&s, s.Func()), wholeM(&s, s.MFunc())
		fBefore, mBefore := testkit.WholeFunc(f), testkit.WholeMFunc(m)
		var w cursor.Writer
		PutFunc(&w, f)
		PutMFunc(&w, m)
		want := join(funcBytes(f), mfuncBytes(m))
		if !testkit.SameFunc(testkit.WholeFunc(f), fBefore) || !testkit.SameMFunc(testkit.WholeMFunc(m), mBefore) {
			t.Fatal("a function has been modified")
		}
		for k := range f.Blocks {
			clear(f.Blocks[k].Code)
		}
		for k := range m.Blocks {
			clear(m.Blocks[k].Code)
		}
		clear(f.Blocks)
		clear(m.Blocks)
		if !bytes.Equal(w.Out(), want) {
			t.Fatal("what has been written has changed")
		}
	}
}

// P18.5: what is read does not change with the bytes, and no two slices in it share memory.
func TestReadShares(t *testing.T) {
	s := testkit.Numbers(518)
	for range 300 {
		f, m := s.Func(), s.MFunc()
		b := join(funcBytes(f), mfuncBytes(m))
		c := cursor.New(b)
		got, gotM := Func(c), MFunc(c)
		again := cursor.New(b)
		other, otherM := Func(again), MFunc(again)
		testkit.Spoil(b)
		for k := range got.Blocks {
			spoilCode(got.Blocks[k].Code, api.Instr{Op: 99})
			got.Blocks[k].Code = slices.Clone(f.Blocks[k].Code)
			if !testkit.SameFunc(got, f) {
				t.Fatalf("block %d shares memory", k)
			}
		}
		for k := range gotM.Blocks {
			spoilCode(gotM.Blocks[k].Code, api.Mach{Op: 99})
			gotM.Blocks[k].Code = slices.Clone(m.Blocks[k].Code)
			if !testkit.SameMFunc(gotM, m) {
				t.Fatalf("block %d shares memory", k)
			}
		}
		if !testkit.SameFunc(other, f) || !testkit.SameMFunc(otherM, m) {
			t.Fatal("two results share memory")
		}
	}
}

// spoilCode overwrites all instructions of a block and of its unused capacity.
func spoilCode[I any](code []I, i I) {
	code = code[:cap(code)]
	for k := range code {
		code[k] = i
	}
}
