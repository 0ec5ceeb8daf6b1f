package varint

import (
	"bytes"
	"math"
	"math/big"
	"testing"

	"regcert/api"
)

// digits returns the encoding of v by the chapter's definition, with division instead of shifts.
func digits(v uint64) []byte {
	b := []byte{byte(v % 128)}
	for v /= 128; v > 0; v /= 128 {
		b[len(b)-1] += 128
		b = append(b, byte(v%128))
	}
	return b
}

// read decodes by the wording of P1.2, with unlimited integers.
func read(b []byte) (uint64, int, api.Errno) {
	sum, base := new(big.Int), big.NewInt(1)
	for k := 0; ; k++ {
		if k >= len(b) {
			return 0, 0, api.ErrShort
		}
		if k == 9 && b[k] > 1 || b[k] == 0 && k > 0 {
			return 0, 0, api.ErrVarint
		}
		sum.Add(sum, new(big.Int).Mul(base, big.NewInt(int64(b[k]%128))))
		base.Mul(base, big.NewInt(128))
		if b[k] < 128 {
			return sum.Uint64(), k + 1, api.OK
		}
	}
}

// samples returns the integers around every power of 2, and others spread over all lengths.
func samples() []uint64 {
	l := []uint64{0, 1, 2, 300, math.MaxUint64}
	for k := range 64 {
		p := uint64(1) << k
		l = append(l, p-1, p, p+1, -p)
	}
	x := uint64(1)
	for k := range 2000 {
		x = x*6364136223846793005 + 1442695040888963407
		l = append(l, x>>(k%64))
	}
	return l
}

func checkGet(t *testing.T, b []byte) {
	t.Helper()
	v, n, e := Get(b)
	if wv, wn, we := read(b); v != wv || n != wn || e != we {
		t.Fatalf("Get(%v) = %d, %d, %d, want %d, %d, %d", b, v, n, e, wv, wn, we)
	}
}

// P1.1
func TestPutTable(t *testing.T) {
	for _, x := range []struct {
		v uint64
		b []byte
	}{
		{0, []byte{0}},
		{1, []byte{1}},
		{127, []byte{127}},
		{128, []byte{128, 1}},
		{300, []byte{172, 2}},
		{1<<14 - 1, []byte{255, 127}},
		{1 << 14, []byte{128, 128, 1}},
		{1<<63 - 1, []byte{255, 255, 255, 255, 255, 255, 255, 255, 127}},
		{1 << 63, []byte{128, 128, 128, 128, 128, 128, 128, 128, 128, 1}},
		{math.MaxUint64, []byte{255, 255, 255, 255, 255, 255, 255, 255, 255, 1}},
	} {
		if b := Put(x.v); !bytes.Equal(b, x.b) {
			t.Errorf("Put(%d) = %v, want %v", x.v, b, x.b)
		}
		if n := Len(x.v); n != len(x.b) {
			t.Errorf("Len(%d) = %d, want %d", x.v, n, len(x.b))
		}
	}
}

// P1.1
func TestPutAgreesWithDefinition(t *testing.T) {
	for _, v := range samples() {
		want := digits(v)
		if b := Put(v); !bytes.Equal(b, want) {
			t.Errorf("Put(%d) = %v, want %v", v, b, want)
		}
		if n := Len(v); n != len(want) || n < 1 || n > 10 {
			t.Errorf("Len(%d) = %d, want %d", v, n, len(want))
		}
	}
}

// P1.2
func TestGetTable(t *testing.T) {
	// ones returns n bytes 255 followed by last.
	ones := func(n int, last ...byte) []byte {
		return append(bytes.Repeat([]byte{255}, n), last...)
	}
	for _, x := range []struct {
		b []byte
		v uint64
		n int
		e api.Errno
	}{
		{[]byte{0}, 0, 1, api.OK},
		{[]byte{0, 0}, 0, 1, api.OK},
		{[]byte{5, 200}, 5, 1, api.OK},
		{[]byte{127}, 127, 1, api.OK},
		{[]byte{172, 2}, 300, 2, api.OK},
		{[]byte{128, 1, 9}, 128, 2, api.OK},
		{ones(8, 127), 1<<63 - 1, 9, api.OK},
		{ones(9, 1), math.MaxUint64, 10, api.OK},
		{ones(9, 1, 255), math.MaxUint64, 10, api.OK},
		{nil, 0, 0, api.ErrShort},
		{[]byte{}, 0, 0, api.ErrShort},
		{[]byte{128}, 0, 0, api.ErrShort},
		{[]byte{255, 255}, 0, 0, api.ErrShort},
		{ones(9), 0, 0, api.ErrShort},
		{[]byte{128, 0}, 0, 0, api.ErrVarint},
		{[]byte{255, 0}, 0, 0, api.ErrVarint},
		{[]byte{129, 128, 0}, 0, 0, api.ErrVarint},
		{[]byte{129, 128, 0, 1}, 0, 0, api.ErrVarint},
		{ones(9, 0), 0, 0, api.ErrVarint},
		{ones(9, 2), 0, 0, api.ErrVarint},
		{ones(9, 127), 0, 0, api.ErrVarint},
		{ones(9, 128), 0, 0, api.ErrVarint},
		{ones(9, 129, 1), 0, 0, api.ErrVarint},
		{ones(11), 0, 0, api.ErrVarint},
	} {
		if v, n, e := Get(x.b); v != x.v || n != x.n || e != x.e {
			t.Errorf("Get(%v) = %d, %d, %d, want %d, %d, %d", x.b, v, n, e, x.v, x.n, x.e)
		}
	}
}

// P1.2: every input of one and two bytes, and every byte behind each number of bytes that continue.
func TestGetAgreesWithDefinition(t *testing.T) {
	checkGet(t, nil)
	for a := range 256 {
		checkGet(t, []byte{byte(a)})
		for b := range 256 {
			checkGet(t, []byte{byte(a), byte(b)})
		}
	}
	for _, fill := range []byte{128, 129, 213, 255} {
		for n := range 14 {
			b := append(bytes.Repeat([]byte{fill}, n), 0)
			for last := range 256 {
				b[n] = byte(last)
				checkGet(t, b)
			}
		}
	}
}

// P1.3
func TestZigzagTable(t *testing.T) {
	for _, x := range []struct {
		n int64
		u uint64
	}{
		{0, 0}, {-1, 1}, {1, 2}, {-2, 3}, {2, 4}, {-300, 599}, {300, 600},
		{math.MaxInt64, math.MaxUint64 - 1}, {math.MinInt64, math.MaxUint64},
	} {
		if u := Zigzag(x.n); u != x.u {
			t.Errorf("Zigzag(%d) = %d, want %d", x.n, u, x.u)
		}
		if n := Unzigzag(x.u); n != x.n {
			t.Errorf("Unzigzag(%d) = %d, want %d", x.u, n, x.n)
		}
	}
}

// P1.3
func TestZigzagAgreesWithDefinition(t *testing.T) {
	for _, s := range samples() {
		n := int64(s)
		want := new(big.Int).Mul(big.NewInt(n), big.NewInt(2))
		if n < 0 {
			want.Neg(want).Sub(want, big.NewInt(1))
		}
		if u := Zigzag(n); !want.IsUint64() || u != want.Uint64() {
			t.Errorf("Zigzag(%d) = %d, want %d", n, u, want)
		}
		if m := Unzigzag(Zigzag(n)); m != n {
			t.Errorf("Unzigzag(Zigzag(%d)) = %d", n, m)
		}
		if u := Zigzag(Unzigzag(s)); u != s {
			t.Errorf("Zigzag(Unzigzag(%d)) = %d", s, u)
		}
	}
}

// P1.4: what is encoded is decoded, whatever follows.
func TestGetOfPut(t *testing.T) {
	for _, v := range samples() {
		for _, tail := range [][]byte{nil, {0}, {1}, {128}, {255, 255, 255}} {
			b := append(Put(v), tail...)
			if w, n, e := Get(b); w != v || n != Len(v) || e != api.OK {
				t.Errorf("Get(%v) = %d, %d, %d, want %d, %d, 0", b, w, n, e, v, Len(v))
			}
		}
	}
}

// P1.4: whatever is decoded is the encoding of the result.
func TestPutOfGet(t *testing.T) {
	for x := range 1 << 20 {
		b := []byte{byte(x), byte(x >> 8), byte(x >> 16)}
		v, n, e := Get(b)
		if e == api.OK && !bytes.Equal(Put(v), b[:n]) {
			t.Fatalf("%v is decoded as %d, whose encoding is %v", b, v, Put(v))
		}
	}
}

// P1.5
func TestArgumentsAndResults(t *testing.T) {
	for _, b := range [][]byte{{172, 2, 7, 8}, {128, 0, 7, 8}, {128, 128, 7, 8}} {
		saved := bytes.Clone(b)
		Get(b[:2])
		if !bytes.Equal(b, saved) {
			t.Errorf("Get changed %v to %v", saved, b)
		}
	}
	for _, v := range []uint64{0, 127, 128, 300, math.MaxUint64} {
		want := digits(v)
		a, b := Put(v), Put(v)
		for k := range a {
			a[k] ^= 255
		}
		if !bytes.Equal(b, want) || !bytes.Equal(Put(v), want) {
			t.Errorf("results of Put(%d) share memory", v)
		}
	}
}
