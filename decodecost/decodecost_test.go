package decodecost

import (
	"bytes"
	"math"
	"slices"
	"testing"

	"regcert/testkit"
)

func shown(b []byte) []byte { return b[:min(len(b), 200)] }

// roomy returns a copy of b with unused capacity that is not 0.
func roomy(b []byte) []byte {
	return append(slices.Clone(b), 82, 67, 1)[:len(b)]
}

// costs checks the cost of decoding b, its bounds, and that b is not modified.
func costs(t *testing.T, b []byte, want Cost) {
	t.Helper()
	in := roomy(b)
	whole := slices.Clone(in[:cap(in)])
	c := Of(in)
	if c != want {
		t.Errorf("Of(%v) = %+v, want %+v", shown(b), c, want)
	}
	if sum := want.Blocks + want.Instrs + want.Pairs; Total(c) != sum {
		t.Errorf("Total(%+v) = %d, want %d", c, Total(c), sum)
	}
	if c.Bytes > len(b) || 3*c.Blocks+2*c.Instrs+2*c.Pairs > 2*len(b) || Total(c) > len(b) {
		t.Errorf("Of(%v) = %+v, too much for %d bytes", shown(b), c, len(b))
	}
	if !bytes.Equal(in[:cap(in)], whole) {
		t.Errorf("Of has modified %v", shown(b))
	}
}

// of is a cost with these numbers of blocks, instructions, pairs and bytes.
func of(blocks, instrs, pairs, size int) Cost {
	return Cost{Blocks: blocks, Instrs: instrs, Pairs: pairs, Bytes: size}
}

// The contents of the sections in the example of layer 20.
var (
	s0 = []byte{0, 1, 1, 0, 3, 0}
	t0 = []byte{0, 1, 0, 1, 0, 3, 0}
	w0 = []byte{1, 0, 0}
)

// The example of the chapter.
func TestExample(t *testing.T) {
	costs(t, []byte{82, 67, 1, 1, 6, 0, 1, 1, 0, 3, 0, 2, 7, 0, 1, 0, 1, 0, 3, 0, 3, 3, 1, 0, 0}, of(2, 0, 1, 16))
}

// P21.2.
func TestTotal(t *testing.T) {
	for _, x := range []struct {
		c    Cost
		want int
	}{
		{Cost{}, 0},
		{of(1, 0, 0, 0), 1},
		{of(0, 1, 0, 0), 1},
		{of(0, 0, 1, 0), 1},
		{of(0, 0, 0, 1), 0},
		{of(1, 20, 300, 4000), 321},
		{of(-1, 20, -300, 7), -281},
		{of(1<<40, 1<<41, 1, 1<<62), 3<<40 + 1},
		{of(math.MaxInt, -1, 0, 9), math.MaxInt - 1},
		{of(math.MinInt, 0, 5, 9), math.MinInt + 5},
	} {
		if n := Total(x.c); n != x.want {
			t.Errorf("Total(%+v) = %d, want %d", x.c, n, x.want)
		}
	}
}

// P21.1: the cost is zero unless the first three bytes are those of an encoding.
func TestHeader(t *testing.T) {
	rest := packed(s0, t0, w0)[3:]
	for _, begin := range [][]byte{nil, {82}, {67}, {82, 67}, {82, 66}, {67, 82}, {82, 67, 0}, {82, 67, 2}, {82, 67, 129}, {82, 67, 129, 0}, {81, 67, 1}, {82, 82, 1}, {82, 99, 1}, {0, 82, 67, 1}} {
		costs(t, begin, Cost{})
		costs(t, join(begin, rest), Cost{})
	}
	for at := range 3 {
		for v := range 256 {
			b := packed(s0, t0, w0)
			if b[at] != byte(v) {
				b[at] = byte(v)
				costs(t, b, Cost{})
			}
		}
	}
}

// P21.1: the bytes of the sections before the first error. Without all of them, no elements are read.
func TestSections(t *testing.T) {
	one, two, three := sectionOf(1, s0), sectionOf(2, t0), sectionOf(3, w0)
	long := make([]byte, 300)
	for _, x := range []struct {
		rest []byte
		want Cost
	}{
		{join(one, two, three), of(2, 0, 1, 16)},
		{nil, Cost{}},
		{one[:1], Cost{}},
		{one[:7], Cost{}}, // a byte of the contents is missing
		{one, of(0, 0, 0, 6)},
		{join(one, two[:1]), of(0, 0, 0, 6)},
		{join(one, two[:8]), of(0, 0, 0, 6)},
		{join(one, two), of(0, 0, 0, 13)},
		{join(one, two, three[:2]), of(0, 0, 0, 13)},
		{join(one, two, three[:4]), of(0, 0, 0, 13)},
		// A byte too many.
		{join(one, two, three, []byte{0}), of(0, 0, 0, 16)},
		{join(one, two, three, three), of(0, 0, 0, 16)},
		{join(one, two, three, sectionOf(4, w0)), of(0, 0, 0, 16)},
		{join(one, two, []byte{3, 2}, w0), of(0, 0, 0, 15)},
		// Another identifier.
		{two, Cost{}},
		{sectionOf(0, s0), Cost{}},
		{sectionOf(129, s0), Cost{}},
		{join(sectionOf(2, s0), sectionOf(1, t0), three), Cost{}},
		{join(one, one, two, three), of(0, 0, 0, 6)},
		{join(one, three, two), of(0, 0, 0, 6)},
		{join(one, sectionOf(0, t0), three), of(0, 0, 0, 6)},
		{join(one, two, two, three), of(0, 0, 0, 13)},
		{join(one, two, sectionOf(4, w0)), of(0, 0, 0, 13)},
		{join(one, two, sectionOf(0, w0)), of(0, 0, 0, 13)},
		{join(one, two, []byte{0}), of(0, 0, 0, 13)},
		// Wrong lengths.
		{join([]byte{1, 134, 0}, s0, two, three), Cost{}},
		{join(one, []byte{2, 135, 0}, t0, three), of(0, 0, 0, 6)},
		{join(one, two, []byte{3, 131, 0}, w0), of(0, 0, 0, 13)},
		{join(one, two, []byte{3, 128}), of(0, 0, 0, 13)},
		{join(one, two, []byte{3, 4}, w0), of(0, 0, 0, 13)},
		{join([]byte{1}, testkit.Digits(1<<32+6), s0, two, three), Cost{}},
		{join(one, []byte{2}, testkit.Digits[uint64](1<<63+7), t0, three), of(0, 0, 0, 6)},
		{join(one, two, []byte{3}, testkit.Digits[uint64](math.MaxUint64), w0), of(0, 0, 0, 13)},
		{join(one, two, []byte{3, 255, 255, 255, 255, 255, 255, 255, 255, 255, 2}, w0), of(0, 0, 0, 13)},
		// Empty and long contents.
		{sectionOf(1, nil), Cost{}},
		{join(sectionOf(1, nil), two), of(0, 0, 0, 7)},
		{join(sectionOf(1, nil), two, three), of(0, 0, 0, 10)},
		{join(one, sectionOf(2, nil), three), of(1, 0, 0, 9)},
		{join(one, two, sectionOf(3, nil)), of(2, 0, 0, 13)},
		{join(sectionOf(1, nil), sectionOf(2, nil), sectionOf(3, nil)), Cost{}},
		{join(sectionOf(1, long), two, three), of(0, 0, 0, 310)},
		{join(sectionOf(1, long), two), of(0, 0, 0, 307)},
		{join(sectionOf(1, long), sectionOf(2, long), sectionOf(3, long)), of(0, 0, 0, 900)},
	} {
		costs(t, join([]byte{82, 67, 1}, x.rest), x.want)
	}
}

// moves are n moves of register 0.
func moves(n int) []byte { return bytes.Repeat([]byte{18, 0, 0}, n) }

// P21.1: the elements of the functions before the first error.
func TestFunctions(t *testing.T) {
	long := func(b []byte) []byte { return append(slices.Clone(b), 0) }
	s1 := []byte{1, 2, 1, 1, 17, 1, 3, 0}
	t1 := []byte{1, 1, 1, 1, 2, 17, 0, 18, 0, 1, 3, 0}
	s2 := []byte{0, 3, 2, 0, 3, 2, 1, 17, 2, 1, 0} // two blocks and three registers
	t2 := []byte{0, 1, 2, 2, 1, 17, 0, 3, 0, 0, 1, 0}
	for _, x := range []struct {
		s, t                  []byte
		blocks, instrs, pairs int
	}{
		{s0, t0, 2, 0, 1},
		{s1, t1, 2, 3, 1},
		// The numbers before the blocks of the source function.
		{nil, t0, 0, 0, 0},
		{[]byte{129, 128, 64}, t0, 0, 0, 0},
		{[]byte{0, 129, 128, 64, 1, 0, 1, 0}, t0, 0, 0, 0},
		{[]byte{0, 129, 0, 1, 0, 1, 0}, t0, 0, 0, 0},
		{[]byte{2, 1, 1, 0, 3, 0}, t0, 0, 0, 0}, // more arguments than registers
		{[]byte{1, 0, 1, 0, 1, 0}, t0, 0, 0, 0},
		{[]byte{0, 0, 1, 0, 1, 0}, t0, 2, 0, 1}, // no registers at all
		// The number of blocks.
		{[]byte{0, 1, 0}, t0, 0, 0, 0},
		{[]byte{0, 1, 0, 1, 17, 0, 3, 0}, t0, 0, 0, 0},
		{[]byte{0, 1, 1}, t0, 0, 0, 0},
		{[]byte{0, 1, 1, 0, 0}, t0, 0, 0, 0},
		{[]byte{0, 1, 2, 0, 3, 0, 0, 3}, t0, 0, 0, 0},
		{[]byte{0, 1, 2, 0, 3, 0, 9, 3, 0}, t0, 2, 0, 0}, // the second block is wrong
		{[]byte{0, 1, 129, 0, 0, 3, 0}, t0, 0, 0, 0},
		{[]byte{0, 1, 129, 128, 64, 0, 3, 0}, t0, 0, 0, 0},
		{[]byte{0, 1, 128, 128, 64, 0, 3, 0}, t0, 0, 0, 0},
		// The number of instructions.
		{[]byte{0, 1, 1, 1, 17, 0}, t0, 1, 1, 0}, // no terminator
		{[]byte{0, 1, 1, 2, 17, 0}, t0, 1, 0, 0}, // no room for the second instruction
		{[]byte{0, 1, 1, 2, 17, 0, 3}, t0, 1, 0, 0},
		{[]byte{0, 1, 1, 2, 17, 0, 3, 0}, t0, 1, 2, 0},
		{[]byte{0, 1, 1, 129, 0, 17, 0, 3, 0}, t0, 1, 0, 0},
		{[]byte{0, 1, 1, 129, 128, 64, 17, 0, 3, 0}, t0, 1, 0, 0},
		// Wrong instructions and terminators.
		{[]byte{0, 1, 2, 2, 18, 0, 17, 0, 3, 0, 1, 17, 0, 3, 0}, t0, 2, 2, 0},
		{[]byte{0, 1, 2, 2, 17, 1, 17, 0, 3, 0, 1, 17, 0, 3, 0}, t0, 2, 2, 0},
		{[]byte{0, 1, 2, 2, 17, 0, 17, 1, 3, 0, 1, 17, 0, 3, 0}, t0, 2, 2, 0},
		{[]byte{0, 1, 2, 2, 17, 0, 0, 0, 3, 0, 1, 17, 0, 3, 0}, t0, 2, 2, 0},
		{[]byte{0, 1, 2, 2, 17, 0, 17, 0, 4, 0, 1, 17, 0, 3, 0}, t0, 2, 2, 0},
		{[]byte{0, 1, 2, 2, 17, 0, 17, 0, 3, 1, 1, 17, 0, 3, 0}, t0, 2, 2, 0},
		{[]byte{0, 1, 2, 2, 17, 0, 17, 0, 1, 2, 1, 17, 0, 3, 0}, t0, 2, 2, 0},
		{[]byte{0, 1, 2, 2, 17, 0, 17, 0, 1, 1, 1, 17, 0, 4, 0}, t0, 2, 3, 0},
		{[]byte{0, 1, 2, 2, 17, 0, 17, 0, 1, 1, 1, 17, 0, 3, 0}, t0, 3, 3, 0}, // correct, with a block too many
		{long(s1), t1, 1, 1, 0},
		{join(s1, s1), t1, 1, 1, 0},
		{s1[:7], t1, 1, 1, 0},
		// The numbers before the blocks of the allocated function.
		{s1, nil, 1, 1, 0},
		{s1, []byte{1, 1}, 1, 1, 0},
		{s1, []byte{1, 129, 128, 64, 1, 1, 1, 17, 0, 3, 0}, 1, 1, 0},
		{s1, []byte{1, 1, 129, 128, 64, 1, 1, 17, 0, 3, 0}, 1, 1, 0},
		{s1, []byte{1, 1, 0, 1, 1, 17, 0, 3, 0}, 1, 1, 0}, // more arguments than slots
		{s1, []byte{2, 1, 1, 1, 1, 17, 0, 3, 0}, 1, 1, 0},
		{s1, []byte{1, 0, 1, 1, 0, 1, 0}, 2, 1, 1}, // more arguments than machine registers
		// The blocks of the allocated function.
		{s1, []byte{1, 1, 1, 0}, 1, 1, 0},
		{s1, []byte{1, 1, 1, 1, 0, 3}, 1, 1, 0},
		{s1, []byte{1, 1, 1, 1, 1, 3, 0}, 2, 2, 0},
		{s1, []byte{1, 1, 1, 1, 2, 3, 0, 0}, 2, 1, 0},
		{s1, []byte{1, 1, 1, 1, 2, 2, 0, 0, 17, 0, 3, 0}, 2, 3, 0}, // a copy
		{s1, []byte{1, 1, 1, 1, 2, 18, 1, 1, 17, 0, 3, 0}, 2, 3, 0},
		{s1, []byte{1, 1, 1, 1, 2, 18, 2, 0, 17, 0, 3, 0}, 2, 3, 0},
		{s1, []byte{1, 1, 1, 1, 2, 18, 0, 3, 17, 0, 3, 0}, 2, 3, 0},
		{s1, []byte{1, 1, 1, 1, 2, 17, 0, 17, 1, 3, 0}, 2, 3, 0},
		{s1, []byte{1, 1, 1, 1, 2, 17, 0, 17, 0, 3, 1}, 2, 3, 0},
		{s1, []byte{1, 1, 1, 1, 2, 17, 0, 17, 0, 1, 1}, 2, 3, 0},
		{s1, long(t1), 2, 3, 0},
		{s1, join(t1, t1), 2, 3, 0},
		{s1, t1[:11], 2, 3, 0},
		// Moves.
		{s2, join([]byte{0, 1, 0, 2, 65}, moves(65), []byte{3, 0, 1, 17, 0, 3, 0}), 4, 66, 0},
		{s2, join([]byte{0, 1, 0, 2, 64}, moves(64), []byte{3, 0, 1, 17, 0, 3, 0}), 4, 66, 1},
		{s2, join([]byte{0, 1, 0, 2, 64}, moves(64), []byte{3, 0, 64}, moves(64), []byte{3, 0}), 4, 129, 1},
		{s2, join([]byte{0, 1, 0, 2, 64}, moves(64), []byte{3, 0, 65}, moves(65), []byte{3, 0}), 4, 130, 0},
		{s2, join([]byte{0, 1, 0, 2, 129, 1}, moves(64), []byte{17, 0}, moves(64), []byte{3, 0, 0, 3, 0}), 4, 130, 1},
		{s2, join([]byte{0, 1, 0, 2, 130, 1}, moves(64), []byte{17, 0}, moves(65), []byte{3, 0, 2, 17, 0, 17, 0, 3, 0}), 4, 131, 0},
		{s2, join([]byte{0, 1, 0, 2, 67}, moves(65), []byte{17, 0, 17, 0, 3, 0, 1, 17, 0, 3, 0}), 4, 68, 0},
		// The numbers of blocks and arguments.
		{s2, t2, 4, 2, 1},
		{s0, t2, 3, 1, 0},
		{s2, t0, 3, 1, 0},
		{s0, t1, 2, 2, 0},
		{s1, t0, 2, 1, 0},
		{s1, []byte{0, 1, 1, 1, 0, 3, 0}, 2, 1, 0},
		{[]byte{2, 2, 1, 0, 3, 0}, t1, 2, 2, 0},
	} {
		w := w0
		if bytes.Equal(x.s, s2) {
			w = []byte{1, 0, 0, 0}
		}
		costs(t, packed(x.s, x.t, w), of(x.blocks, x.instrs, x.pairs, len(x.s)+len(x.t)+len(w)))
	}
}

// P21.1: the elements of the invariants before the first error.
func TestInvariants(t *testing.T) {
	s := []byte{0, 3, 2, 0, 3, 2, 0, 1, 0}     // two blocks and three registers
	m := []byte{0, 1, 2, 2, 0, 3, 0, 0, 1, 0}  // a machine register and two slots
	m2 := []byte{0, 2, 1, 2, 0, 3, 0, 0, 1, 0} // two machine registers and a slot
	for _, x := range []struct {
		w     []byte
		pairs int
	}{
		{[]byte{0, 0}, 0},
		{[]byte{1, 0, 0, 2, 0, 0, 0, 0}, 3},
		{[]byte{3, 0, 0, 0, 0, 2, 3, 1, 2, 1}, 4},
		{nil, 0},
		{[]byte{0}, 0}, // the second invariant is missing
		{[]byte{1, 0, 0}, 1},
		{[]byte{0, 0, 0}, 0}, // one too many
		{[]byte{1, 0, 0, 1, 0, 0, 1, 0, 0}, 2},
		{[]byte{1, 0, 0, 1, 0, 0, 0}, 2},
		// The number of pairs.
		{[]byte{1, 0}, 0},
		{[]byte{2, 0, 0, 0}, 0},
		{[]byte{2, 0, 0, 0, 0}, 2},
		{[]byte{1, 0, 0, 1, 0}, 1},
		{[]byte{1, 0, 0, 2, 0, 0, 0}, 1},
		{[]byte{129, 0, 0, 0}, 0},
		{[]byte{129, 128, 64, 0, 0}, 0},
		{[]byte{1, 0, 0, 129, 128, 64}, 1},
		{[]byte{1, 0, 0, 128, 128, 64}, 1},
		// Registers, which are those of the source function.
		{[]byte{1, 2, 0, 1, 2, 0}, 2},
		{[]byte{1, 3, 0, 1, 0, 0}, 1},
		{[]byte{2, 1, 0, 1, 0, 1, 0, 0}, 3},
		{[]byte{2, 1, 0, 2, 0, 1, 0, 0}, 2},
		{[]byte{2, 2, 0, 1, 0, 1, 0, 0}, 2},
		{join([]byte{1}, testkit.Digits(1<<32), []byte{0, 1, 0, 0}), 1},
		{join([]byte{1}, testkit.Digits[uint64](1<<63), []byte{0, 1, 0, 0}), 1},
		{join([]byte{2, 2, 0}, testkit.Digits[uint64](math.MaxUint64), []byte{0, 1, 0, 0}), 2},
		{join([]byte{2, 2, 0}, testkit.Digits[uint64](math.MaxUint64-1), []byte{0, 1, 0, 0}), 2},
		{[]byte{1, 129, 0, 1, 0, 0}, 1},
		// Locations.
		{[]byte{1, 0, 3, 1, 0, 0}, 2},
		{[]byte{1, 0, 2, 1, 0, 0}, 1},
		{[]byte{1, 0, 5, 1, 0, 0}, 1},
		{[]byte{2, 0, 0, 0, 1, 1, 0, 0}, 2}, // the difference 1 leaves out location 1
		{[]byte{2, 0, 1, 0, 1, 1, 0, 0}, 3},
		{[]byte{2, 0, 3, 0, 0, 1, 0, 0}, 2},
		{[]byte{2, 0, 3, 1, 0, 1, 0, 0}, 3}, // with another register, it is not a difference
		{[]byte{2, 0, 3, 1, 3, 1, 0, 0}, 3},
		{join([]byte{1, 0}, testkit.Digits(1<<32), []byte{1, 0, 0}), 1},
		{join([]byte{1, 0}, testkit.Digits[uint64](1<<63), []byte{1, 0, 0}), 1},
		{join([]byte{1, 0}, testkit.Digits[uint64](1<<63+1), []byte{1, 0, 0}), 1},
		{join([]byte{2, 0, 1, 0}, testkit.Digits[uint64](math.MaxUint64), []byte{1, 0, 0}), 2},
		{join([]byte{2, 0, 1, 0}, testkit.Digits[uint64](math.MaxUint64-1), []byte{1, 0, 0}), 2},
		{[]byte{1, 0, 129, 0, 1, 0, 0}, 1},
		{[]byte{1, 0, 0, 2, 0, 2, 0, 0}, 3}, // in the last invariant
	} {
		costs(t, packed(s, m, x.w), of(4, 0, x.pairs, 19+len(x.w)))
	}
	// Machine registers and slots are those of the allocated function, and each invariant has a first pair of its own.
	costs(t, packed(s, m2, []byte{1, 2, 2, 1, 0, 0}), of(4, 0, 2, 25))
	costs(t, packed(s, m2, []byte{1, 2, 3, 1, 0, 0}), of(4, 0, 1, 25))
	costs(t, packed(s, m2, []byte{1, 2, 4, 1, 0, 0}), of(4, 0, 1, 25))
}
