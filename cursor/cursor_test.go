package cursor

import (
	"bytes"
	"math"
	"math/big"
	"strconv"
	"testing"

	"regcert/api"
	"regcert/testkit"
	"regcert/varint"
)

// model is a cursor by the wording of P2.1 to P2.3: it keeps the bytes that are left, and moves by cutting them off.
type model struct {
	all, rest []byte
	err       api.Errno
}

// take reads n bytes, or fails.
func (m *model) take(n int, e api.Errno) {
	if e != api.OK {
		m.err = e
		return
	}
	m.rest = m.rest[n:]
}

func (m *model) byte() byte {
	if m.err != api.OK {
		return 0
	}
	if len(m.rest) == 0 {
		m.take(0, api.ErrShort)
		return 0
	}
	b := m.rest[0]
	m.take(1, api.OK)
	return b
}

func (m *model) bytes(n int) []byte {
	if m.err != api.OK {
		return nil
	}
	if n < 0 {
		m.take(0, api.ErrArg)
		return nil
	}
	var b []byte
	for k := 0; k < n; k++ {
		if k == len(m.rest) {
			m.take(0, api.ErrShort)
			return nil
		}
		b = append(b, m.rest[k])
	}
	m.take(n, api.OK)
	return b
}

func (m *model) uint(most uint64) uint64 {
	if m.err != api.OK {
		return 0
	}
	v, n, e := varint.Get(m.rest)
	if e == api.OK && v > most {
		e = api.ErrLimit
	}
	m.take(n, e)
	if e != api.OK {
		return 0
	}
	return v
}

func (m *model) int() int64 {
	return varint.Unzigzag(m.uint(math.MaxUint64))
}

func (m *model) count(most, size int) int {
	if m.err != api.OK {
		return 0
	}
	if most < 0 || size < 0 {
		m.take(0, api.ErrArg)
		return 0
	}
	before := m.rest
	v := m.uint(uint64(most))
	if m.err != api.OK {
		return 0
	}
	need := new(big.Int).Mul(new(big.Int).SetUint64(v), big.NewInt(int64(size)))
	if need.Cmp(big.NewInt(int64(len(m.rest)))) > 0 {
		m.rest = before
		m.take(0, api.ErrShort)
		return 0
	}
	return int(v)
}

func (m *model) end() {
	if m.err == api.OK && len(m.rest) > 0 {
		m.err = api.ErrLong
	}
}

func (m *model) fail(e api.Errno) {
	if m.err == api.OK {
		m.err = e
	}
}

func (m *model) left() int {
	if m.err != api.OK {
		return 0
	}
	return len(m.rest)
}

// step performs the same operation on the cursor and on the model and says what it is and whether the results are equal.
func step(s *testkit.Numbers, c *Cursor, m *model) (string, bool) {
	small := []int{-1, 0, 1, 2, 3, 5, 200, math.MaxInt, math.MinInt}
	n := small[s.Below(len(small))]
	k := small[s.Below(len(small))]
	args := strconv.Itoa(n) + ", " + strconv.Itoa(k)
	switch s.Below(12) {
	case 0, 1:
		return "Byte", c.Byte() == m.byte()
	case 2, 3:
		n = s.Below(5) - s.Below(2)*s.Below(2)
		return "Bytes " + strconv.Itoa(n), bytes.Equal(c.Bytes(n), m.bytes(n))
	case 4:
		return "Bytes " + args, bytes.Equal(c.Bytes(n), m.bytes(n))
	case 5, 6:
		v := s.Wide()
		return "Uint " + strconv.FormatUint(v, 10), c.Uint(v) == m.uint(v)
	case 7, 8:
		return "Int", c.Int() == m.int()
	case 9:
		return "Count " + args, c.Count(n, k) == m.count(n, k)
	case 10:
		k = s.Below(3)
		return "Count 200, " + strconv.Itoa(k), c.Count(200, k) == m.count(200, k)
	}
	if s.Below(4) > 0 {
		c.Fail(api.OK)
		return "Fail 0", true
	}
	if s.Below(2) == 0 {
		c.End()
		m.end()
		return "End", true
	}
	e := api.Errno(s.Below(40))
	c.Fail(e)
	m.fail(e)
	return "Fail " + strconv.Itoa(int(e)), true
}

// P2.1, P2.2, P2.3, P2.5: cursors behave like the model, whatever the bytes and the operations.
func TestCursorAgreesWithModel(t *testing.T) {
	s := testkit.Numbers(1)
	for range 20000 {
		b := make([]byte, s.Below(30))
		for k := range b {
			b[k] = byte(s.Below(256) >> s.Below(8))
		}
		c, m := New(b), &model{all: b, rest: b}
		log := ""
		for range 12 {
			what, same := step(&s, c, m)
			log += what + "; "
			at := len(m.all) - len(m.rest)
			if !same || c.At() != at || c.Left() != m.left() || c.Err() != m.err {
				t.Fatalf("%v: %s: result agrees: %t, At %d, want %d, Left %d, want %d, Err %d, want %d",
					b, log, same, c.At(), at, c.Left(), m.left(), c.Err(), m.err)
			}
		}
	}
}

// P2.1
func TestNew(t *testing.T) {
	for _, b := range [][]byte{nil, {}, {7}, {0, 1, 2}} {
		c := New(b)
		if c.At() != 0 || c.Left() != len(b) || c.Err() != api.OK {
			t.Errorf("New(%v): At %d, Left %d, Err %d", b, c.At(), c.Left(), c.Err())
		}
	}
	c := New([]byte{1, 2, 3})
	c.Byte()
	if c.At() != 1 || c.Left() != 2 || c.Err() != api.OK {
		t.Errorf("after a byte: At %d, Left %d, Err %d", c.At(), c.Left(), c.Err())
	}
	c.Fail(api.ErrMagic)
	if c.At() != 1 || c.Left() != 0 || c.Err() != api.ErrMagic {
		t.Errorf("after an error: At %d, Left %d, Err %d", c.At(), c.Left(), c.Err())
	}
}

// P2.2
func TestReads(t *testing.T) {
	full := bytes.Repeat([]byte{255}, 9)
	checkReads(t, []reading{
		{"byte", []byte{255, 1}, byteOf, 255, 1, api.OK},
		{"byte, none", nil, byteOf, 0, 0, api.ErrShort},

		{"uint", []byte{172, 2, 5}, uintOf(300), 300, 2, api.OK},
		{"uint, too large", []byte{172, 2, 5}, uintOf(299), 0, 0, api.ErrLimit},
		{"uint, 0", []byte{0}, uintOf(0), 0, 1, api.OK},
		{"uint, 1 for 0", []byte{1}, uintOf(0), 0, 0, api.ErrLimit},
		{"uint, largest", append(full[:9:9], 1), uintOf(math.MaxUint64), math.MaxUint64, 10, api.OK},
		{"uint, above largest but one", append(full[:9:9], 1), uintOf(math.MaxUint64 - 1), 0, 0, api.ErrLimit},
		{"uint, none", nil, uintOf(9), 0, 0, api.ErrShort},
		{"uint, short", []byte{128}, uintOf(9), 0, 0, api.ErrShort},
		{"uint, not minimal", []byte{128, 0}, uintOf(9), 0, 0, api.ErrVarint},
		{"uint, 65 bits", append(full[:9:9], 2), uintOf(9), 0, 0, api.ErrVarint},

		{"int, 0", []byte{0}, intOf, 0, 1, api.OK},
		{"int, -1", []byte{1, 1}, intOf, math.MaxUint64, 1, api.OK},
		{"int, 1", []byte{2}, intOf, 1, 1, api.OK},
		{"int, 150", []byte{172, 2}, intOf, 150, 2, api.OK},
		{"int, least", append(full[:9:9], 1), intOf, 1 << 63, 10, api.OK},
		{"int, none", nil, intOf, 0, 0, api.ErrShort},
		{"int, short", []byte{129}, intOf, 0, 0, api.ErrShort},
		{"int, not minimal", []byte{129, 0}, intOf, 0, 0, api.ErrVarint},
		{"int, 65 bits", append(full[:9:9], 2), intOf, 0, 0, api.ErrVarint},
	})
}

// P2.2
func TestCount(t *testing.T) {
	huge := varint.Put(math.MaxInt)
	checkReads(t, []reading{
		{"example", []byte{2, 0, 0, 0}, countOf(10, 2), 0, 0, api.ErrShort},
		{"just enough", []byte{2, 0, 0, 0, 0}, countOf(10, 2), 2, 1, api.OK},
		{"more than enough", []byte{2, 0, 0, 0, 0, 0}, countOf(10, 2), 2, 1, api.OK},
		{"the integer does not count", []byte{172, 2, 0}, countOf(300, 1), 0, 0, api.ErrShort},
		{"enough behind two bytes", append([]byte{128, 1}, make([]byte, 128)...), countOf(128, 1), 128, 2, api.OK},
		{"one too few behind two bytes", append([]byte{128, 1}, make([]byte, 127)...), countOf(128, 1), 0, 0, api.ErrShort},
		{"no elements", []byte{0}, countOf(10, math.MaxInt), 0, 1, api.OK},
		{"at most none", []byte{0}, countOf(0, 0), 0, 1, api.OK},
		{"one, at most none", []byte{1, 0}, countOf(0, 1), 0, 0, api.ErrLimit},
		{"the most", []byte{10}, countOf(10, 0), 10, 1, api.OK},
		{"above the most", []byte{11}, countOf(10, 0), 0, 0, api.ErrLimit},
		{"above the most and too few", []byte{11}, countOf(10, 1), 0, 0, api.ErrLimit},
		{"empty elements", huge, countOf(math.MaxInt, 0), math.MaxInt, len(huge), api.OK},
		{"huge number", huge, countOf(math.MaxInt, 1), 0, 0, api.ErrShort},
		{"huge product", huge, countOf(math.MaxInt, 2), 0, 0, api.ErrShort},
		{"product of 2^64", append(varint.Put(1<<60), 0), countOf(math.MaxInt, 16), 0, 0, api.ErrShort},
		{"huge size", []byte{2, 0, 0}, countOf(2, math.MaxInt), 0, 0, api.ErrShort},
		{"more than an int", varint.Put(math.MaxInt + 1), countOf(math.MaxInt, 0), 0, 0, api.ErrLimit},
		{"negative most", []byte{0}, countOf(-1, 0), 0, 0, api.ErrArg},
		{"least most", []byte{0}, countOf(math.MinInt, 0), 0, 0, api.ErrArg},
		{"negative size", []byte{0}, countOf(1, -1), 0, 0, api.ErrArg},
		{"negative size before the limit", []byte{4}, countOf(3, -1), 0, 0, api.ErrArg},
		{"negative most before reading", nil, countOf(-1, 1), 0, 0, api.ErrArg},
		{"negative size before reading", []byte{128, 0}, countOf(1, -1), 0, 0, api.ErrArg},
		{"none", nil, countOf(1, 1), 0, 0, api.ErrShort},
		{"short", []byte{128}, countOf(1, 1), 0, 0, api.ErrShort},
		{"not minimal", []byte{129, 0}, countOf(1, 1), 0, 0, api.ErrVarint},
	})
}

func byteOf(c *Cursor) uint64 { return uint64(c.Byte()) }

func intOf(c *Cursor) uint64 { return uint64(c.Int()) }

func uintOf(most uint64) func(c *Cursor) uint64 {
	return func(c *Cursor) uint64 { return c.Uint(most) }
}

func countOf(most, size int) func(c *Cursor) uint64 {
	return func(c *Cursor) uint64 { return uint64(c.Count(most, size)) }
}

// reading is a read of the bytes b: its value v, the number n of bytes it reads, and its error e.
type reading struct {
	name string
	b    []byte
	do   func(c *Cursor) uint64
	v    uint64
	n    int
	e    api.Errno
}

// checkReads performs each read behind a byte 9, which shows that reading is at the offset.
func checkReads(t *testing.T, l []reading) {
	t.Helper()
	for _, x := range l {
		c := New(append([]byte{9}, x.b...))
		c.Byte()
		left := len(x.b) - x.n
		if x.e != api.OK {
			left = 0
		}
		if v := x.do(c); v != x.v || c.At() != x.n+1 || c.Left() != left || c.Err() != x.e {
			t.Errorf("%s: %d, At %d, Left %d, Err %d, want %d, %d, %d, %d",
				x.name, v, c.At(), c.Left(), c.Err(), x.v, x.n+1, left, x.e)
		}
	}
}

// P2.2
func TestBytes(t *testing.T) {
	b := []byte{9, 10, 11, 12}
	for _, x := range []struct {
		n    int
		want []byte
		e    api.Errno
	}{
		{0, nil, api.OK},
		{1, []byte{10}, api.OK},
		{3, []byte{10, 11, 12}, api.OK},
		{4, nil, api.ErrShort},
		{math.MaxInt, nil, api.ErrShort},
		{-1, nil, api.ErrArg},
		{math.MinInt, nil, api.ErrArg},
	} {
		c := New(b)
		c.Byte()
		if got := c.Bytes(x.n); !bytes.Equal(got, x.want) || c.At() != 1+len(x.want) || c.Err() != x.e {
			t.Errorf("Bytes(%d) = %v, At %d, Err %d, want %v, %d, %d", x.n, got, c.At(), c.Err(), x.want, 1+len(x.want), x.e)
		}
	}
	c := New(nil)
	if got := c.Bytes(0); len(got) != 0 || c.Err() != api.OK {
		t.Errorf("Bytes(0) of nothing = %v, Err %d", got, c.Err())
	}
}

// P2.2: a cursor with an error stays as it is, also if the operation would succeed or fail differently without it.
func TestErrorStays(t *testing.T) {
	for _, e := range []api.Errno{api.ErrShort, api.ErrLimit, api.ErrArg, 77, -1} {
		c := New([]byte{3, 2, 2, 2})
		c.Byte()
		c.Fail(e)
		same := c.Byte() == 0 && len(c.Bytes(1)) == 0 && len(c.Bytes(0)) == 0 && len(c.Bytes(-1)) == 0 && len(c.Bytes(9)) == 0 &&
			c.Uint(9) == 0 && c.Uint(0) == 0 && c.Int() == 0 && c.Count(9, 0) == 0 && c.Count(-1, -1) == 0 && c.Count(1, 1) == 0
		c.End()
		c.Fail(api.ErrMagic)
		c.Fail(api.OK)
		if !same || c.At() != 1 || c.Left() != 0 || c.Err() != e {
			t.Errorf("error %d: reads are zero: %t, At %d, Left %d, Err %d", e, same, c.At(), c.Left(), c.Err())
		}
	}
	c := New([]byte{128, 0, 5})
	if c.Uint(1); c.Byte() != 0 || len(c.Bytes(4)) != 0 || c.At() != 0 || c.Err() != api.ErrVarint {
		t.Errorf("after a failed read: At %d, Err %d", c.At(), c.Err())
	}
}

// P2.3
func TestEnd(t *testing.T) {
	c := New([]byte{1})
	c.End()
	if c.Err() != api.ErrLong || c.At() != 0 || c.Left() != 0 || c.Byte() != 0 {
		t.Errorf("End before a byte: Err %d, At %d", c.Err(), c.At())
	}
	c = New([]byte{1})
	c.Byte()
	c.End()
	if c.Err() != api.OK || c.At() != 1 {
		t.Errorf("End at the end: Err %d, At %d", c.Err(), c.At())
	}
	c = New(nil)
	c.End()
	if c.Err() != api.OK {
		t.Errorf("End of nothing: Err %d", c.Err())
	}
	c.Byte()
	c.End()
	if c.Err() != api.ErrShort {
		t.Errorf("End after an error: Err %d", c.Err())
	}
}

// P2.3
func TestFail(t *testing.T) {
	c := New([]byte{1, 2})
	c.Fail(api.OK)
	if c.Err() != api.OK || c.Byte() != 1 {
		t.Errorf("Fail(OK): Err %d", c.Err())
	}
	c.Fail(api.ErrMagic)
	c.Fail(api.ErrLong)
	c.Fail(api.OK)
	if c.Err() != api.ErrMagic || c.Byte() != 0 || c.At() != 1 {
		t.Errorf("Fail(ErrMagic): Err %d, At %d", c.Err(), c.At())
	}
}

// What the chapter says of nil cursors.
func TestNilCursor(t *testing.T) {
	var c *Cursor
	c.End()
	c.Fail(api.ErrLong)
	c.Fail(api.OK)
	if c.Byte() != 0 || len(c.Bytes(0)) != 0 || len(c.Bytes(-1)) != 0 || c.Uint(9) != 0 || c.Int() != 0 || c.Count(1, 0) != 0 || c.Count(-1, 0) != 0 {
		t.Error("a read of a nil cursor is not zero")
	}
	if c.At() != 0 || c.Left() != 0 || c.Err() != api.ErrArg {
		t.Errorf("nil cursor: At %d, Left %d, Err %d", c.At(), c.Left(), c.Err())
	}
}

// P2.4
func TestWriter(t *testing.T) {
	for _, x := range []struct {
		name string
		do   func(w *Writer)
		want []byte
	}{
		{"nothing", func(w *Writer) {}, nil},
		{"byte", func(w *Writer) { w.Byte(0); w.Byte(255) }, []byte{0, 255}},
		{"bytes", func(w *Writer) { w.Bytes([]byte{3, 200}); w.Bytes(nil); w.Bytes([]byte{0}) }, []byte{3, 200, 0}},
		{"uint", func(w *Writer) { w.Uint(0); w.Uint(300); w.Uint(127) }, []byte{0, 172, 2, 127}},
		{"largest uint", func(w *Writer) { w.Uint(math.MaxUint64) }, []byte{255, 255, 255, 255, 255, 255, 255, 255, 255, 1}},
		{"int", func(w *Writer) { w.Int(0); w.Int(-1); w.Int(1); w.Int(64); w.Int(-64) }, []byte{0, 1, 2, 128, 1, 127}},
		{"largest int", func(w *Writer) { w.Int(math.MaxInt64) }, []byte{254, 255, 255, 255, 255, 255, 255, 255, 255, 1}},
		{"least int", func(w *Writer) { w.Int(math.MinInt64) }, []byte{255, 255, 255, 255, 255, 255, 255, 255, 255, 1}},
		{"all", func(w *Writer) { w.Byte(9); w.Int(-3); w.Uint(3); w.Bytes([]byte{8, 7}) }, []byte{9, 5, 3, 8, 7}},
	} {
		w := &Writer{}
		x.do(w)
		if got := w.Out(); !bytes.Equal(got, x.want) {
			t.Errorf("%s: %v, want %v", x.name, got, x.want)
		}
		if got := w.Out(); !bytes.Equal(got, x.want) {
			t.Errorf("%s: a second Out returns %v, want %v", x.name, got, x.want)
		}
	}
}

// What the chapter says of nil writers.
func TestNilWriter(t *testing.T) {
	var w *Writer
	w.Byte(1)
	w.Bytes([]byte{1})
	w.Uint(1)
	w.Int(1)
	if b := w.Out(); b != nil {
		t.Errorf("nil writer: %v", b)
	}
}

// P2.5: everything that is written is read back, and the cursor is then at the end.
func TestReadBack(t *testing.T) {
	s := testkit.Numbers(5)
	for range 2000 {
		w := &Writer{}
		var reads []func(c *Cursor) bool
		for range s.Below(20) {
			v := s.Wide()
			n := int64(s.Wide())
			b := make([]byte, s.Below(4))
			for k := range b {
				b[k] = byte(s.Below(256))
			}
			switch s.Below(4) {
			case 0:
				w.Byte(byte(v))
				reads = append(reads, func(c *Cursor) bool { return c.Byte() == byte(v) })
			case 1:
				w.Bytes(b)
				reads = append(reads, func(c *Cursor) bool { return bytes.Equal(c.Bytes(len(b)), b) })
			case 2:
				w.Uint(v)
				reads = append(reads, func(c *Cursor) bool { return c.Uint(v) == v })
			case 3:
				w.Int(n)
				reads = append(reads, func(c *Cursor) bool { return c.Int() == n })
			}
		}
		out := w.Out()
		c := New(out)
		for k, read := range reads {
			if !read(c) || c.Err() != api.OK || c.At()+c.Left() != len(out) {
				t.Fatalf("%v: read %d fails: At %d, Left %d, Err %d", out, k, c.At(), c.Left(), c.Err())
			}
		}
		if c.End(); c.At() != len(out) || c.Err() != api.OK {
			t.Fatalf("%v: At %d, Err %d at the end", out, c.At(), c.Err())
		}
	}
}

// P2.6: the bytes of a cursor are its own, and so are those that it returns.
func TestCursorMemory(t *testing.T) {
	b := []byte{1, 2, 3, 4, 5, 6}
	c := New(b[:4])
	testkit.Spoil(b)
	one := c.Bytes(1)
	if !bytes.Equal(one, []byte{1}) {
		t.Errorf("the cursor has retained its argument: %v", one)
	}
	testkit.Spoil(one)
	rest := c.Bytes(3)
	if !bytes.Equal(rest, []byte{2, 3, 4}) {
		t.Errorf("a result shares memory with the cursor: %v", rest)
	}
	c = New([]byte{1, 2, 3})
	again := *c // which reads the same bytes once more
	testkit.Spoil(c.Bytes(3))
	if rest = again.Bytes(3); !bytes.Equal(rest, []byte{1, 2, 3}) {
		t.Errorf("a result shares memory with bytes that have been read: %v", rest)
	}
	b = []byte{1, 2, 3, 4}
	c = New(b[:2])
	testkit.Spoil(c.Bytes(2))
	c.Byte()
	if !bytes.Equal(b, []byte{1, 2, 3, 4}) {
		t.Errorf("the argument of New has been changed to %v", b)
	}
}

// P2.6: the bytes of a writer are its own, and so are those that it returns.
func TestWriterMemory(t *testing.T) {
	b := []byte{1, 2, 3, 4}
	w := &Writer{}
	w.Bytes(b[:2])
	w.Byte(9)
	if !bytes.Equal(b, []byte{1, 2, 3, 4}) {
		t.Errorf("the argument of Bytes has been changed to %v", b)
	}
	testkit.Spoil(b)
	first, second := w.Out(), w.Out()
	testkit.Spoil(first)
	if !bytes.Equal(second, []byte{1, 2, 9}) || !bytes.Equal(w.Out(), []byte{1, 2, 9}) {
		t.Errorf("results of Out share memory: %v, %v", second, w.Out())
	}
	w.Uint(300)
	if !bytes.Equal(second, []byte{1, 2, 9}) || !bytes.Equal(w.Out(), []byte{1, 2, 9, 172, 2}) {
		t.Errorf("a write after Out: %v, %v", second, w.Out())
	}
}
