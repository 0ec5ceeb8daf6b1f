package witness

import (
	"bytes"
	"math"
	"runtime"
	"slices"
	"testing"

	"regcert/api"
	"regcert/cursor"
	"regcert/testkit"
)

// P19.2, P19.3: all short inputs over some bytes, for small numbers.
func TestShortInputs(t *testing.T) {
	inputs := [][]byte{nil}
	for from := 0; len(inputs[from]) < 7; from++ {
		for _, last := range []byte{0, 1, 2, 3, 128} {
			inputs = append(inputs, append(slices.Clone(inputs[from]), last))
		}
	}
	seen := map[api.Errno]int{}
	for _, b := range inputs {
		for _, n := range []sizes{{1, 2, 2, 2}, {2, 3, 1, 1}, {3, 1, 2, 0}, {1, 3, 0, 3}} {
			seen[n.compare(t, b)]++
		}
	}
	for _, e := range []api.Errno{api.OK, api.ErrShort, api.ErrVarint, api.ErrReg, api.ErrLoc} {
		if seen[e] < 100 {
			t.Errorf("the error %d is seen only %d times", e, seen[e])
		}
	}
}

// P19.2, P19.3: numbers around the powers of 2 at every place, also such that a sum would wrap around, for numbers around them.
func TestEdgeNumbers(t *testing.T) {
	for shift := range 65 {
		power := uint64(1) << shift // 0 for the last one
		for _, v := range []uint64{power - 4, power - 3, power - 2, power - 1, power, power + 1, power + 2} {
			number := testkit.Digits(v)
			for _, most := range []int{0, 1, 2, 3, 128, 1<<14 + 1, api.Limit - 1, api.Limit} {
				for _, b := range [][]byte{
					join(number, make([]byte, 100)),
					join([]byte{1}, number, []byte{0}), join([]byte{1, 0}, number), join([]byte{1}, number, number),
					join([]byte{2, 0, 0}, number, []byte{0}), join([]byte{2, 1, 2}, number, []byte{1}), join([]byte{2, 1, 2}, number, number),
					join([]byte{2, 0, 0, 0}, number), join([]byte{2, 1, 3, 0}, number), join([]byte{2, 0, 3, 1}, number),
					join([]byte{2, 255, 255, 63, 255, 255, 127}, number, []byte{0}), join([]byte{2, 255, 255, 63, 255, 255, 127, 0}, number),
				} {
					for _, n := range []sizes{{1, most, most, most}, {1, most, 1, 2}, {1, 2, most, 2}, {1, 2, 2, most}, {1, api.Limit, most, api.Limit}, {1, api.Limit, api.Limit, most}, {1, most, api.Limit, api.Limit}} {
						n.compare(t, b)
					}
				}
			}
		}
	}
}

// P19.1, P19.3: all invariants for three registers, two machine registers and two slots have different encodings and are read back.
func TestAllSmall(t *testing.T) {
	var all []api.Pair
	for v := range 3 {
		for at := range 4 {
			all = append(all, p(v, api.Loc(at)))
		}
	}
	seen := map[string]bool{}
	for mask := range 1 << len(all) {
		l := list(testkit.PairsOf(all, mask))
		b := out(l)
		if !bytes.Equal(b, encoding(l)) || seen[string(b)] {
			t.Errorf("the encoding of %v is %v, want %v, which no other one has", l, b, encoding(l))
		}
		seen[string(b)] = true
		sizes{1, 3, 2, 2}.read(t, b, l, len(b), api.OK)
	}
}

// someSizes returns numbers of which all but that of the blocks are positive, small or up to Limit.
func someSizes(s *testkit.Numbers) sizes {
	some := func() int { return []int{1, 2, 3, 5, 130, 20000, api.Limit}[s.Below(7)] }
	return sizes{s.Below(5), some(), some(), some()}
}

// invariants returns random invariants that are valid for n.
func (n sizes) invariants(s *testkit.Numbers) [][]api.Pair {
	return s.Invariants(n.blocks, n.vregs, n.regs, n.slots)
}

// P19.1, P19.2, P19.3: random invariants, their encodings cut off anywhere, damaged ones, and ones for other numbers.
func TestRandom(t *testing.T) {
	s := testkit.Numbers(19)
	seen := map[api.Errno]int{}
	for range 5000 {
		n := someSizes(&s)
		l := n.invariants(&s)
		b := encoding(l)
		if got := out(l); !bytes.Equal(got, b) || !n.valid(l) {
			t.Fatalf("the encoding of %v is %v, want %v", l, got, b)
		}
		n.read(t, append(slices.Clone(b), byte(s.Below(256))), l, len(b), api.OK)
		for k := range b {
			n.fail(t, b[:k], api.ErrShort)
		}
		seen[someSizes(&s).compare(t, b)]++
		for range 10 {
			if len(b) > 0 {
				seen[n.compare(t, s.Damaged(b))]++
			}
		}
	}
	for _, e := range []api.Errno{api.OK, api.ErrShort, api.ErrVarint, api.ErrLimit, api.ErrReg, api.ErrLoc} {
		if seen[e] < 100 {
			t.Errorf("the error %d is seen only %d times", e, seen[e])
		}
	}
}

// P19.1, P19.2: what is written one after the other is read in the same order.
func TestSequence(t *testing.T) {
	s := testkit.Numbers(1919)
	var w cursor.Writer
	var numbers []sizes
	var lists [][][]api.Pair
	for range 500 {
		n := someSizes(&s)
		l := n.invariants(&s)
		numbers, lists = append(numbers, n), append(lists, l)
		Put(&w, l)
	}
	b := w.Out()
	before := slices.Clone(b)
	c := cursor.New(b)
	at := 0
	for k, n := range numbers {
		l := n.get(c)
		at += len(encoding(lists[k]))
		if !testkit.SameInvariants(l, lists[k]) || c.At() != at {
			t.Fatalf("%d: read %v, offset %d, want %v, %d", k, l, c.At(), lists[k], at)
		}
	}
	c.End()
	if c.Err() != api.OK || !bytes.Equal(b, before) || !bytes.Equal(w.Out(), before) {
		t.Errorf("error %d, or reading has changed the bytes", c.Err())
	}
}

// row returns an invariant with n pairs, of register 0 and the locations from 0 to n - 1.
func row(n int) []api.Pair {
	l := make([]api.Pair, n)
	for k := range l {
		l[k].L = api.Loc(k)
	}
	return l
}

// rows returns invariants with these numbers of pairs.
func rows(counts ...int) [][]api.Pair {
	var l [][]api.Pair
	for _, n := range counts {
		l = append(l, row(n))
	}
	return l
}

// limited returns the greatest numbers, and this number of blocks.
func limited(blocks int) sizes {
	return sizes{blocks, api.Limit, api.Limit, api.Limit}
}

// P19.1, P19.2: there may be 2^20 invariants, and 2^20 pairs in total.
func TestLimits(t *testing.T) {
	const limit = 1 << 20
	for _, counts := range [][]int{{limit}, {0, limit, 0}, {limit - 1, 1}, {1, 0, limit - 1}, {limit / 2, 0, limit / 4, limit / 4}} {
		b := out(rows(counts...))
		if e := limited(len(counts)).compare(t, b); e != api.OK || !bytes.Equal(b, encoding(rows(counts...))) {
			t.Errorf("%v pairs have the error %d, or another encoding", counts, e)
		}
	}
	for _, counts := range [][]int{{limit + 1}, {limit, 1}, {limit, limit}, {limit - 1, 2}, {limit, 0, 0, 1}, {limit / 2, limit / 2, 1}, {1, limit}, {1, 0, limit, 0}} {
		limited(len(counts)).fail(t, encoding(rows(counts...)), api.ErrLimit)
	}
	for _, pairs := range [][]api.Pair{nil, row(1)} {
		many := slices.Repeat(list(pairs), limit)
		if e := limited(limit).compare(t, out(many)); e != api.OK {
			t.Errorf("2^20 invariants have the error %d", e)
		}
		limited(limit).fail(t, out(many[1:]), api.ErrShort)
		many[limit/2] = row(2)
		if e := limited(limit).compare(t, out(many)); (e == api.ErrLimit) != (len(pairs) > 0) {
			t.Errorf("2^20 invariants, one of them with two pairs, have the error %d", e)
		}
	}
}

// P19.2: the sum of the numbers of pairs is compared with the limit after the number of pairs has been read, and before the pairs of the invariant are read.
func TestLimitOrder(t *testing.T) {
	full := encoding(rows(1 << 20))
	for _, x := range []struct {
		tail []byte
		want api.Errno
	}{
		{[]byte{1, 0, 0}, api.ErrLimit},
		{[]byte{1, 128, 0}, api.ErrLimit},                      // rather than the ErrVarint
		{join([]byte{1}, testkit.Digits(1<<20)), api.ErrLimit}, // rather than the ErrReg
		{[]byte{1, 0}, api.ErrShort},
		{[]byte{129, 0}, api.ErrVarint},
		{[]byte{}, api.ErrShort},
		{[]byte{0, 1, 0, 0}, api.ErrLimit},
		{[]byte{0, 1, 0}, api.ErrShort},
		{[]byte{0}, api.ErrShort},
		{[]byte{0, 0}, api.OK},
	} {
		if e := limited(3).compare(t, join(full, x.tail)); e != x.want {
			t.Errorf("behind 2^20 pairs, %v has the error %d, want %d", x.tail, e, x.want)
		}
	}
	// The last of the pairs has slot 2^19 - 1.
	tail := []byte{1, 0, 0}
	for _, x := range []struct {
		n    sizes
		want api.Errno
	}{
		{sizes{2, 1, 1 << 19, 1 << 19}, api.ErrLimit}, {sizes{2, 1, 1 << 19, 1<<19 - 1}, api.ErrLoc}, {sizes{2, 0, 1 << 19, 1 << 19}, api.ErrReg},
	} {
		if e := x.n.compare(t, join(full, tail)); e != x.want {
			t.Errorf("behind 2^20 pairs, %v has the error %d for %v, want %d", tail, e, x.n, x.want)
		}
	}
}

// P19.2, P4: no number of pairs is accepted for which the bytes that are left do not suffice, and one is accepted for which they just do.
func TestCounts(t *testing.T) {
	for count := 1; count < 300; count++ {
		tail := make([]byte, 2*count-1)
		tail[0] = 9
		b := join(testkit.Digits(count), tail)
		sizes{1, 9, 300, 300}.fail(t, b, api.ErrShort)
		sizes{1, 9, 300, 300}.fail(t, append(b, 0), api.ErrReg)
		b[len(b)-len(tail)] = 0
		if e := (sizes{1, 9, 300, 300}).compare(t, append(b, 0)); e != api.OK {
			t.Errorf("%d pairs have the error %d", count, e)
		}
	}
}

// P4: an input of a few bytes for which many pairs or invariants are announced is rejected without allocating them.
func TestAllocation(t *testing.T) {
	zeros := make([]byte, 100)
	for _, x := range []struct {
		blocks int
		b      []byte
	}{
		{api.Limit, zeros}, {math.MaxInt, zeros}, {1, join(testkit.Digits(1<<20), zeros)}, {1, join(testkit.Digits(200), zeros)}, {2, join([]byte{0}, testkit.Digits(1<<20), zeros)},
	} {
		var before, after runtime.MemStats
		runtime.ReadMemStats(&before)
		for range 100 {
			limited(x.blocks).get(cursor.New(x.b))
		}
		runtime.ReadMemStats(&after)
		if size := (after.TotalAlloc - before.TotalAlloc) / 100; size > 12000 {
			t.Errorf("reading %v for %d blocks allocates %d bytes", x.b, x.blocks, size)
		}
	}
}

// P19.4: invariants are not modified, nor their unused capacity, and what has been written does not change with them.
func TestPutKeeps(t *testing.T) {
	s := testkit.Numbers(194)
	for range 1000 {
		n := someSizes(&s)
		n.blocks += 2
		all := n.invariants(&s)
		before := make([][]api.Pair, len(all))
		for k := range all {
			all[k] = append(all[k], p(k, 7), p(9, 9))[:len(all[k])]
			before[k] = testkit.WholePairs(all[k])
		}
		l := all[:len(all)-2]
		var w cursor.Writer
		Put(&w, l)
		want := encoding(l)
		for k := range all {
			if !slices.Equal(testkit.WholePairs(all[k]), before[k]) {
				t.Fatal("an invariant has been modified")
			}
			testkit.SpoilPairs(all[k])
		}
		clear(all)
		if !bytes.Equal(w.Out(), want) {
			t.Fatal("what has been written has changed")
		}
	}
}

// P19.4: what is read does not change with the bytes, and no two slices in it share memory.
func TestGetShares(t *testing.T) {
	s := testkit.Numbers(491)
	for range 1000 {
		n := someSizes(&s)
		l := n.invariants(&s)
		b := encoding(l)
		c := cursor.New(b)
		got, other := n.get(c), n.get(cursor.New(b))
		testkit.Spoil(b)
		for k := range got {
			testkit.SpoilPairs(got[k])
			got[k] = slices.Clone(l[k])
			if !testkit.SameInvariants(got, l) {
				t.Fatalf("invariant %d shares memory", k)
			}
		}
		if !testkit.SameInvariants(other, l) {
			t.Fatal("two results share memory")
		}
	}
}
