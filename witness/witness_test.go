package witness

import (
	"bytes"
	"math"
	"slices"
	"testing"

	"regcert/api"
	"regcert/cursor"
	"regcert/testkit"
)

// Locations are written as numbers: register n is 2 * n, and slot n is 2 * n + 1.

func p(v int, l api.Loc) api.Pair       { return api.Pair{V: v, L: l} }
func set(l ...api.Pair) []api.Pair      { return l }
func list(l ...[]api.Pair) [][]api.Pair { return l }
func join(parts ...[]byte) []byte       { return slices.Concat(parts...) }

// read reads b and checks the result, the error, and the offset if there is no error.
func (n sizes) read(t *testing.T, b []byte, want [][]api.Pair, wantAt int, wantErr api.Errno) {
	t.Helper()
	c := cursor.New(b)
	got := n.get(c)
	if !testkit.SameInvariants(got, want) || c.Err() != wantErr || wantErr == api.OK && c.At() != wantAt {
		t.Errorf("Get of %v for %v = %v, error %d, offset %d, want %v, %d, %d", b[:min(len(b), 200)], n, some(got), c.Err(), c.At(), some(want), wantErr, wantAt)
	}
	if wantErr != api.OK && got != nil {
		t.Errorf("Get of %v for %v is not nil", b[:min(len(b), 200)], n)
	}
}

// some returns the pairs of l that a message shows.
func some(l [][]api.Pair) []api.Pair {
	all := slices.Concat(l...)
	return all[:min(len(all), 50)]
}

func (n sizes) fail(t *testing.T, b []byte, want api.Errno) {
	t.Helper()
	n.read(t, b, nil, 0, want)
}

// compare reads b and compares the result with the model. What is read must be valid, and b its encoding.
func (n sizes) compare(t *testing.T, b []byte) api.Errno {
	t.Helper()
	want, at, e := n.model(b)
	n.read(t, b, want, at, e)
	if e == api.OK && (!n.valid(want) || !bytes.Equal(out(want), b[:at])) {
		t.Errorf("%v is read as %v for %v, which is not valid or has the encoding %v", b[:min(len(b), 200)], some(want), n, out(want)[:min(at, 200)])
	}
	return e
}

// The example of the chapter.
func TestExample(t *testing.T) {
	l := list(set(p(0, 1), p(0, 3), p(2, 0)))
	b := []byte{3, 0, 1, 0, 1, 2, 0}
	if got := out(l); !bytes.Equal(got, b) {
		t.Errorf("Put writes %v, want %v", got, b)
	}
	sizes{1, 3, 1, 2}.read(t, b, l, 7, api.OK)
}

// P19.1, P19.2, P19.3: encodings by hand, which are the same for all numbers of registers, machine registers and slots that suffice.
func TestTable(t *testing.T) {
	for _, x := range []struct {
		l    [][]api.Pair
		want []byte
	}{
		{nil, nil},
		{list(nil), []byte{0}},
		{list(set(), nil, set()), []byte{0, 0, 0}},
		// The first pair.
		{list(set(p(0, 0))), []byte{1, 0, 0}},
		{list(set(p(0, 1))), []byte{1, 0, 1}},
		{list(set(p(1, 0))), []byte{1, 1, 0}},
		{list(set(p(5, 7))), []byte{1, 5, 7}},
		{list(set(p(128, 300))), []byte{1, 128, 1, 172, 2}},
		{list(set(p(0, 1<<21-1))), []byte{1, 0, 255, 255, 127}},
		{list(set(p(0, 1<<21-2))), []byte{1, 0, 254, 255, 127}},
		{list(set(p(1<<20-1, 1<<21-1))), []byte{1, 255, 255, 63, 255, 255, 127}},
		// The same register again: the difference of the locations, minus 1.
		{list(set(p(0, 0), p(0, 1), p(0, 2))), []byte{3, 0, 0, 0, 0, 0, 0}},
		{list(set(p(0, 0), p(0, 2), p(0, 5))), []byte{3, 0, 0, 0, 1, 0, 2}},
		{list(set(p(3, 4), p(3, 5), p(3, 300))), []byte{3, 3, 4, 0, 0, 0, 166, 2}},
		{list(set(p(0, 0), p(0, 1<<21-1))), []byte{2, 0, 0, 0, 254, 255, 127}},
		// Another register: the location itself, which may be less, equal or greater.
		{list(set(p(0, 6), p(1, 5))), []byte{2, 0, 6, 1, 5}},
		{list(set(p(0, 6), p(1, 6))), []byte{2, 0, 6, 1, 6}},
		{list(set(p(0, 6), p(1, 7))), []byte{2, 0, 6, 1, 7}},
		{list(set(p(0, 6), p(1, 0), p(300, 0))), []byte{3, 0, 6, 1, 0, 171, 2, 0}},
		{list(set(p(2, 3), p(4, 1), p(4, 2), p(7, 2), p(7, 9))), []byte{5, 2, 3, 2, 1, 0, 0, 3, 2, 0, 6}},
		{list(set(p(0, 0), p(1<<20-1, 1<<21-1))), []byte{2, 0, 0, 255, 255, 63, 255, 255, 127}},
		// Each invariant begins anew.
		{list(set(p(3, 4)), set(p(3, 4)), set(p(3, 5)), set(p(2, 1))), []byte{1, 3, 4, 1, 3, 4, 1, 3, 5, 1, 2, 1}},
		{list(nil, set(p(1, 1), p(1, 2)), nil, set(p(0, 0), p(1, 1)), nil), []byte{0, 2, 1, 1, 0, 0, 0, 2, 0, 0, 1, 1, 0}},
	} {
		if got := out(x.l); !bytes.Equal(got, x.want) {
			t.Errorf("Put of %v writes %v, want %v", x.l, got, x.want)
		}
		n := sizes{len(x.l), api.Limit, api.Limit, api.Limit}
		n.read(t, x.want, x.l, len(x.want), api.OK)
		n.read(t, append(x.want, 255, 128, 0), x.l, len(x.want), api.OK)
		for k := range x.want {
			n.fail(t, x.want[:k], api.ErrShort)
		}
	}
}

// P19.1: an invariant of many pairs, whose number has several bytes.
func TestLong(t *testing.T) {
	var l []api.Pair
	want := []byte{172, 2}
	for k := range 300 {
		l = append(l, p(k/100, api.Loc(k%100)))
		switch {
		case k == 0:
			want = append(want, 0, 0)
		case k%100 == 0:
			want = append(want, 1, 0)
		default:
			want = append(want, 0, 0)
		}
	}
	if got := out(list(l)); !bytes.Equal(got, want) {
		t.Errorf("Put writes %v, want %v", got, want)
	}
	sizes{1, 3, 50, 50}.read(t, want, list(l), len(want), api.OK)
	sizes{1, 2, 50, 50}.fail(t, want, api.ErrReg)
	sizes{1, 3, 50, 49}.fail(t, want, api.ErrLoc)
	sizes{1, 3, 49, 50}.fail(t, want, api.ErrLoc)
}

// P19.1: the encoding is appended to what has been written.
func TestPutAppends(t *testing.T) {
	var w cursor.Writer
	w.Bytes([]byte{7, 8})
	Put(&w, list(set(p(1, 2)), nil))
	Put(&w, nil)
	Put(&w, list(set(p(1, 2))))
	w.Byte(9)
	if want := []byte{7, 8, 1, 1, 2, 0, 1, 1, 2, 9}; !bytes.Equal(w.Out(), want) {
		t.Errorf("the writer has %v, want %v", w.Out(), want)
	}
}

// P19.2: each error, and which of several is the first, with 2 registers, 2 machine registers and 3 slots, whose locations are 0, 1, 2, 3 and 5.
func TestErrors(t *testing.T) {
	huge := []byte{255, 255, 255, 255, 255, 255, 255, 255, 255, 1} // 2^64 - 1
	for _, x := range []struct {
		b      []byte
		blocks int
		want   api.Errno
	}{
		// The number of pairs.
		{nil, 0, api.OK},
		{[]byte{128, 0}, 0, api.OK}, // nothing is read
		{nil, 1, api.ErrShort},
		{[]byte{128}, 1, api.ErrShort},
		{[]byte{128, 0}, 1, api.ErrVarint},
		{[]byte{129, 0, 0, 0}, 1, api.ErrVarint},
		{[]byte{129, 128, 64}, 1, api.ErrLimit}, // 2^20 + 1, rather than the ErrShort
		{[]byte{128, 128, 64}, 1, api.ErrShort}, // 2^20
		{testkit.Digits(1 << 32), 1, api.ErrLimit},
		{testkit.Digits(math.MaxInt), 1, api.ErrLimit},
		{huge, 1, api.ErrLimit},
		{[]byte{1}, 1, api.ErrShort},
		{[]byte{1, 9}, 1, api.ErrShort},        // rather than the ErrReg: the bytes do not suffice for a pair
		{[]byte{2, 9, 9, 9}, 1, api.ErrShort},  // nor for two pairs
		{[]byte{2, 9, 9, 9, 9}, 1, api.ErrReg}, // now they suffice
		{[]byte{2, 0, 9, 9, 9}, 1, api.ErrLoc}, // of the first pair
		{[]byte{2, 128, 0, 9, 9}, 1, api.ErrVarint},
		// The number of invariants.
		{[]byte{0}, 2, api.ErrShort},
		{[]byte{0, 0}, 2, api.OK},
		{[]byte{0, 0, 0}, 2, api.OK},
		{[]byte{0}, api.Limit, api.ErrShort},
		{[]byte{0, 0, 2, 0, 0, 0}, 3, api.ErrShort},
		{[]byte{1, 0, 0, 129, 128, 64}, 2, api.ErrLimit},
		{[]byte{1, 2, 0, 129, 128, 64}, 2, api.ErrReg}, // the first invariant, rather than the second
		{[]byte{1, 0, 4, 128, 0}, 2, api.ErrLoc},
		{[]byte{1, 0, 0, 1, 2, 0}, 2, api.ErrReg},
		// Registers.
		{[]byte{1, 1, 0}, 1, api.OK},
		{[]byte{1, 2, 0}, 1, api.ErrReg},
		{[]byte{1, 2, 4}, 1, api.ErrReg},   // rather than the ErrLoc
		{[]byte{1, 2, 128}, 1, api.ErrReg}, // rather than the ErrShort
		{[]byte{1, 2, 128, 0}, 1, api.ErrReg},
		{[]byte{1, 128, 0}, 1, api.ErrVarint},
		{[]byte{1, 128, 128}, 1, api.ErrShort},
		{[]byte{1, 130, 1}, 1, api.ErrReg}, // 130, behind which nothing is left
		{join([]byte{1}, huge, []byte{0}), 1, api.ErrReg},
		{[]byte{2, 0, 0, 1, 0}, 1, api.OK},
		{[]byte{2, 0, 0, 2, 0}, 1, api.ErrReg},
		{[]byte{2, 1, 0, 0, 0}, 1, api.OK},
		{[]byte{2, 1, 0, 1, 0}, 1, api.ErrReg},
		{[]byte{3, 0, 0, 1, 0, 1, 0}, 1, api.ErrReg},
		{join([]byte{2, 1, 0}, huge, []byte{0}), 1, api.ErrReg},                            // 1 - 1, if it wrapped around
		{join([]byte{2, 1, 0}, testkit.Digits[uint64](1<<63-1), []byte{0}), 1, api.ErrReg}, // -2^63, if it wrapped around
		{join([]byte{2, 1, 0}, testkit.Digits[uint64](1<<63), []byte{0}), 1, api.ErrReg},
		{join([]byte{2, 1, 0}, testkit.Digits(1<<32), []byte{0}), 1, api.ErrReg},
		// Locations.
		{[]byte{1, 0, 3}, 1, api.OK},
		{[]byte{1, 0, 4}, 1, api.ErrLoc},
		{[]byte{1, 0, 5}, 1, api.OK},
		{[]byte{1, 0, 6}, 1, api.ErrLoc},
		{[]byte{1, 0, 7}, 1, api.ErrLoc},
		{[]byte{1, 0, 128}, 1, api.ErrShort},
		{[]byte{1, 0, 128, 0}, 1, api.ErrVarint},
		{[]byte{1, 0, 255, 255, 255, 255, 255, 255, 255, 255, 255, 2}, 1, api.ErrVarint}, // 2^64 and more
		{join([]byte{1, 0}, huge), 1, api.ErrLoc},
		{join([]byte{1, 0}, testkit.Digits(1<<32)), 1, api.ErrLoc},
		{join([]byte{1, 0}, testkit.Digits[uint64](1<<63)), 1, api.ErrLoc},
		{[]byte{2, 0, 3, 0, 1}, 1, api.OK},
		{[]byte{2, 0, 3, 0, 0}, 1, api.ErrLoc}, // 4
		{[]byte{2, 0, 3, 0, 2}, 1, api.ErrLoc}, // 6
		{[]byte{2, 0, 3, 0, 3}, 1, api.ErrLoc}, // 7
		{[]byte{2, 0, 5, 0, 0}, 1, api.ErrLoc}, // 6
		{[]byte{2, 0, 3, 1, 4}, 1, api.ErrLoc},
		{[]byte{2, 0, 3, 1, 1}, 1, api.OK},
		{[]byte{3, 0, 0, 0, 0, 0, 1}, 1, api.OK},                                            // 0, 1 and 3
		{[]byte{3, 0, 0, 0, 0, 0, 2}, 1, api.ErrLoc},                                        // 0, 1 and 4
		{join([]byte{2, 0, 3, 0}, huge), 1, api.ErrLoc},                                     // 3, if it wrapped around
		{join([]byte{2, 0, 3, 0}, testkit.Digits[uint64](math.MaxUint64-1)), 1, api.ErrLoc}, // 2
		{join([]byte{2, 0, 3, 0}, testkit.Digits[uint64](math.MaxUint64-3)), 1, api.ErrLoc}, // 0
		{join([]byte{2, 0, 3, 0}, testkit.Digits[uint64](1<<63-4)), 1, api.ErrLoc},          // -2^63
		{join([]byte{2, 0, 3, 0}, testkit.Digits(1<<32)), 1, api.ErrLoc},
		// The first pair that is wrong.
		{[]byte{2, 0, 4, 2, 0}, 1, api.ErrLoc},
		{[]byte{2, 2, 0, 0, 4}, 1, api.ErrReg},
		{[]byte{2, 0, 4, 128, 0}, 1, api.ErrLoc},
		{[]byte{2, 0, 0, 128, 0}, 1, api.ErrVarint},
		{[]byte{2, 0, 0, 0, 128}, 1, api.ErrShort},
	} {
		n := sizes{x.blocks, 2, 2, 3}
		if _, _, e := n.model(x.b); e != x.want {
			t.Fatalf("the model has the error %d for %v, want %d", e, x.b, x.want)
		}
		n.compare(t, x.b)
	}
}

// P19.2: without registers, machine registers or slots there are no pairs that need them.
func TestNone(t *testing.T) {
	for _, x := range []struct {
		n    sizes
		b    []byte
		want api.Errno
	}{
		{sizes{0, 0, 0, 0}, nil, api.OK},
		{sizes{2, 0, 0, 0}, []byte{0, 0}, api.OK},
		{sizes{1, 0, 0, 0}, []byte{1, 0, 0}, api.ErrReg},
		{sizes{1, 0, 1, 1}, []byte{1, 0, 0}, api.ErrReg},
		{sizes{1, 0, 1, 1}, []byte{1, 128, 0}, api.ErrVarint},
		{sizes{1, 1, 0, 0}, []byte{1, 0, 0}, api.ErrLoc},
		{sizes{1, 1, 0, 0}, []byte{1, 0, 1}, api.ErrLoc},
		{sizes{1, 1, 0, 1}, []byte{1, 0, 0}, api.ErrLoc},
		{sizes{1, 1, 0, 1}, []byte{1, 0, 1}, api.OK},
		{sizes{1, 1, 1, 0}, []byte{1, 0, 0}, api.OK},
		{sizes{1, 1, 1, 0}, []byte{1, 0, 1}, api.ErrLoc},
		{sizes{1, 1, 1, 0}, []byte{1, 1, 1}, api.ErrReg},
	} {
		if e := x.n.compare(t, x.b); e != x.want {
			t.Errorf("the error of %v for %v is %d, want %d", x.b, x.n, e, x.want)
		}
	}
}

// P19.2: if the cursor has an error, nothing is read, and it stays as it is.
func TestFailed(t *testing.T) {
	for _, blocks := range []int{0, 1, 2, api.Limit} {
		for _, e := range []api.Errno{api.ErrShort, api.ErrArg, api.ErrLoc, -1, 99} {
			c := cursor.New([]byte{9, 0, 0, 0})
			c.Byte()
			c.Fail(e)
			if l := Get(c, blocks, 1, 1, 1); l != nil || c.Err() != e || c.At() != 1 {
				t.Errorf("%v are read after the error %d, then the error is %d, and the offset %d", l, e, c.Err(), c.At())
			}
		}
		if l := Get(nil, blocks, 1, 1, 1); l != nil {
			t.Errorf("%v are read from a nil cursor", l)
		}
	}
	Put(nil, list(set(p(0, 0), p(1, 0)), nil))
}

// P1: what other arguments result in is not specified, but the functions do not panic.
func TestUnspecified(t *testing.T) {
	for _, q := range testkit.EdgePairs() {
		for _, r := range testkit.EdgePairs() {
			out(list(set(q, r, q)))
		}
	}
	b := []byte{3, 0, 1, 0, 0, 1, 255, 255, 127, 1, 255, 255, 255, 255, 255, 255, 255, 255, 127, 0, 0}
	for _, many := range testkit.Around(2) {
		for _, n := range []sizes{{many, 1, 1, 1}, {2, many, 1, 1}, {2, 1, many, 1}, {2, 1, 1, many}, {2, many, many, many}, {many, many, many, many}} {
			n.get(cursor.New(b))
			n.get(nil)
		}
	}
}
