package section

import (
	"bytes"
	"slices"
	"testing"

	"regcert/api"
	"regcert/testkit"
	"regcert/varint"
)

// someSections returns up to 5 sections, few of which have the same contents.
func someSections(s *testkit.Numbers) ([]byte, [][]byte) {
	var ids []byte
	var contents [][]byte
	for range s.Below(6) {
		content := make([]byte, []int{0, 1, 2, 5, 127, 128, 300}[s.Below(7)])
		for k := range content {
			content[k] = byte(s.Below(256))
		}
		ids = append(ids, byte(s.Below(256)))
		contents = append(contents, content)
	}
	return ids, contents
}

// packed is the packed form by the wording of the definitions.
func packed(ids []byte, contents [][]byte) []byte {
	var b []byte
	for k := range ids {
		b = append(b, ids[k])
		b = append(b, varint.Put(uint64(len(contents[k])))...)
		b = append(b, contents[k]...)
	}
	return b
}

// splitModel is Split by the wording of P3.2.
func splitModel(b []byte, ids []byte) ([][]byte, api.Errno) {
	var contents [][]byte
	for _, id := range ids {
		if len(b) == 0 {
			return nil, api.ErrShort
		}
		if b[0] != id {
			return nil, api.ErrSection
		}
		length, n, e := varint.Get(b[1:])
		if e != api.OK {
			return nil, e
		}
		b = b[1+n:]
		if uint64(len(b)) < length {
			return nil, api.ErrShort
		}
		contents = append(contents, b[:length])
		b = b[length:]
	}
	if len(b) > 0 {
		return nil, api.ErrLong
	}
	return contents, api.OK
}

// checkSplit compares a call of Split with what it should return.
func checkSplit(t *testing.T, name string, b, ids []byte, want [][]byte, wantErr api.Errno) {
	t.Helper()
	got, e := Split(b, ids...)
	if e != wantErr || !slices.EqualFunc(got, want, bytes.Equal) || e != api.OK && got != nil {
		t.Errorf("%s: Split(%v, %v) = %v, %d, want %v, %d", name, b, ids, got, e, want, wantErr)
	}
}

// P3.1
func TestPack(t *testing.T) {
	large := make([]byte, 300)
	for _, x := range []struct {
		name     string
		ids      []byte
		contents [][]byte
		want     []byte
		e        api.Errno
	}{
		{"nothing", nil, nil, nil, api.OK},
		{"example", []byte{5}, [][]byte{{1, 2}}, []byte{5, 2, 1, 2}, api.OK},
		{"empty contents", []byte{0}, [][]byte{nil}, []byte{0, 0}, api.OK},
		{"in order", []byte{9, 255, 9}, [][]byte{{3}, {}, {1, 0}}, []byte{9, 1, 3, 255, 0, 9, 2, 1, 0}, api.OK},
		{"127 bytes", []byte{1}, [][]byte{large[:127]}, append([]byte{1, 127}, large[:127]...), api.OK},
		{"128 bytes", []byte{1}, [][]byte{large[:128]}, append([]byte{1, 128, 1}, large[:128]...), api.OK},
		{"300 bytes", []byte{1}, [][]byte{large}, append([]byte{1, 172, 2}, large...), api.OK},
		{"no contents", []byte{5}, nil, nil, api.ErrCount},
		{"no identifier", nil, [][]byte{{1}}, nil, api.ErrCount},
		{"no identifier of empty contents", nil, [][]byte{nil}, nil, api.ErrCount},
		{"an identifier too many", []byte{5, 6}, [][]byte{{1}}, nil, api.ErrCount},
		{"an identifier too few", []byte{5}, [][]byte{{1}, {2}}, nil, api.ErrCount},
	} {
		got, e := Pack(x.ids, x.contents...)
		if e != x.e || !bytes.Equal(got, x.want) || e != api.OK && got != nil {
			t.Errorf("%s: %v, %d, want %v, %d", x.name, got, e, x.want, x.e)
		}
		if n := Size(x.contents...); x.e == api.OK && n != len(x.want) {
			t.Errorf("%s: Size is %d, want %d", x.name, n, len(x.want))
		}
	}
}

// P3.1
func TestSize(t *testing.T) {
	if n := Size(); n != 0 {
		t.Errorf("Size of nothing is %d", n)
	}
	for _, n := range []int{0, 1, 126, 127, 128, 129, 300, 1<<14 - 1, 1 << 14, 1<<21 - 1, 1 << 21} {
		content := make([]byte, n)
		b, e := Pack([]byte{1, 2}, content, content)
		if got := Size(content, content); e != api.OK || got != len(b) || got != 2*(1+len(varint.Put(uint64(n)))+n) {
			t.Errorf("Size of twice %d bytes is %d, and Pack returns %d bytes", n, got, len(b))
		}
	}
}

// P3.2
func TestSplit(t *testing.T) {
	large := make([]byte, 128)
	eights := bytes.Repeat([]byte{255}, 9)
	for _, x := range []struct {
		name string
		b    []byte
		ids  []byte
		want [][]byte
		e    api.Errno
	}{
		{"nothing", nil, nil, nil, api.OK},
		{"one", []byte{5, 2, 1, 2}, []byte{5}, [][]byte{{1, 2}}, api.OK},
		{"empty contents", []byte{0, 0}, []byte{0}, [][]byte{nil}, api.OK},
		{"several", []byte{9, 1, 3, 255, 0, 9, 2, 1, 0}, []byte{9, 255, 9}, [][]byte{{3}, nil, {1, 0}}, api.OK},
		{"128 bytes", append([]byte{1, 128, 1}, large...), []byte{1}, [][]byte{large}, api.OK},
		{"example, short", []byte{5, 2, 1}, []byte{5}, nil, api.ErrShort},
		{"example, another identifier", []byte{5, 2, 1}, []byte{6}, nil, api.ErrSection},

		{"no identifier", nil, []byte{5}, nil, api.ErrShort},
		{"no identifier 0", nil, []byte{0}, nil, api.ErrShort},
		{"no second identifier", []byte{5, 0}, []byte{5, 0}, nil, api.ErrShort},
		{"another second identifier", []byte{5, 0, 7, 0}, []byte{5, 8}, nil, api.ErrSection},
		{"identifiers in another order", []byte{5, 0, 7, 0}, []byte{7, 5}, nil, api.ErrSection},
		{"another identifier and no length", []byte{5}, []byte{6}, nil, api.ErrSection},
		{"another identifier and a wrong length", []byte{5, 128, 0}, []byte{6}, nil, api.ErrSection},
		{"no length", []byte{5}, []byte{5}, nil, api.ErrShort},
		{"short length", []byte{5, 128}, []byte{5}, nil, api.ErrShort},
		{"length not minimal", []byte{5, 129, 0, 1}, []byte{5}, nil, api.ErrVarint},
		{"length of 65 bits", append(append([]byte{5}, eights...), 2), []byte{5}, nil, api.ErrVarint},
		{"largest length", append(append([]byte{5}, eights...), 1), []byte{5}, nil, api.ErrShort},
		{"largest int as length", append(append([]byte{5}, eights[:8]...), 127), []byte{5}, nil, api.ErrShort},
		{"length 2^63", []byte{5, 128, 128, 128, 128, 128, 128, 128, 128, 128, 1}, []byte{5}, nil, api.ErrShort},
		{"length 2^32", []byte{5, 128, 128, 128, 128, 16, 1}, []byte{5}, nil, api.ErrShort},
		{"no contents", []byte{5, 1}, []byte{5}, nil, api.ErrShort},
		{"127 of 128 bytes", append([]byte{1, 128, 1}, large[1:]...), []byte{1}, nil, api.ErrShort},
		{"short contents before another identifier", []byte{5, 9, 7, 0}, []byte{5, 8}, nil, api.ErrShort},
		{"wrong length in the second section", []byte{5, 1, 4, 6, 128, 0}, []byte{5, 6}, nil, api.ErrVarint},

		{"a byte behind nothing", []byte{5}, nil, nil, api.ErrLong},
		{"a byte behind the last section", []byte{5, 1, 4, 0}, []byte{5}, nil, api.ErrLong},
		{"a section behind the last one", []byte{5, 1, 4, 6, 0}, []byte{5}, nil, api.ErrLong},
	} {
		checkSplit(t, x.name, x.b, x.ids, x.want, x.e)
	}
}

// P3.2: of a form that is damaged in one place, Split finds the first error.
func TestSplitAgreesWithModel(t *testing.T) {
	s := testkit.Numbers(3)
	seen := map[api.Errno]int{}
	for range 20000 {
		ids, contents := someSections(&s)
		b := packed(ids, contents)
		switch s.Below(5) {
		case 0:
			b = b[:s.Below(len(b)+1)]
		case 1:
			b = append(b, byte(s.Below(256)))
		case 2:
			if len(b) > 0 {
				b[s.Below(min(len(b), 8))] = byte(s.Below(256))
			}
		case 3:
			b = make([]byte, s.Below(12))
			for k := range b {
				b[k] = byte(s.Below(256) >> s.Below(8))
			}
			ids = ids[:min(len(ids), 2)]
			for k := range min(len(ids), len(b)) {
				ids[k] = b[k]
			}
		}
		want, e := splitModel(b, ids)
		checkSplit(t, "damaged", b, ids, want, e)
		seen[e]++
		if e == api.OK && !bytes.Equal(packed(ids, want), b) {
			t.Fatalf("the model splits %v, which is not a packed form", b)
		}
	}
	for _, e := range []api.Errno{api.OK, api.ErrShort, api.ErrLong, api.ErrVarint, api.ErrSection} {
		if seen[e] == 0 {
			t.Errorf("no input has the error %d", e)
		}
	}
}

// P3.3: what is packed is split into the same contents.
func TestPackThenSplit(t *testing.T) {
	s := testkit.Numbers(7)
	for range 5000 {
		ids, contents := someSections(&s)
		b, e := Pack(ids, contents...)
		if e != api.OK || !bytes.Equal(b, packed(ids, contents)) || Size(contents...) != len(b) {
			t.Fatalf("Pack(%v, %v) = %v, %d, and Size is %d", ids, contents, b, e, Size(contents...))
		}
		checkSplit(t, "packed", b, ids, contents, api.OK)
	}
}

// P3.3: what is split is the packed form of the result, for all short inputs of small bytes.
func TestSplitThenPack(t *testing.T) {
	ids := [][]byte{nil, {1}, {0, 0}, {2, 0, 1}}
	for n := range 6 {
		b := make([]byte, n)
		for number := range 1 << (2 * n) {
			for k := range b {
				b[k] = []byte{0, 1, 2, 129}[number>>(2*k)&3]
			}
			for _, l := range ids {
				contents, e := Split(b, l...)
				if e != api.OK {
					continue
				}
				if again, e := Pack(l, contents...); e != api.OK || !bytes.Equal(again, b) {
					t.Fatalf("Split(%v, %v) = %v, whose packed form is %v, %d", b, l, contents, again, e)
				}
			}
		}
	}
}

// P3.2: a short input is short of very many sections, too.
func TestSplitManyIdentifiers(t *testing.T) {
	ids := make([]byte, 1<<20)
	checkSplit(t, "two identifiers", []byte{0, 0, 0, 0}, ids[:2], [][]byte{nil, nil}, api.OK)
	if out, e := Split([]byte{0, 0, 0, 0}, ids...); out != nil || e != api.ErrShort {
		t.Errorf("many identifiers: %d contents, %d", len(out), e)
	}
}

// P3.4: Pack neither changes nor retains its arguments.
func TestPackMemory(t *testing.T) {
	all := []byte{1, 2, 3, 4, 5, 6, 7, 8}
	ids, first, second := all[:2], all[3:5], all[6:7]
	b, e := Pack(ids, first, second)
	other, _ := Pack(ids, first, second)
	if n := Size(first, second); e != api.OK || n != 7 || !bytes.Equal(all, []byte{1, 2, 3, 4, 5, 6, 7, 8}) {
		t.Errorf("the arguments have been changed to %v, or Size is wrong: %d", all, n)
	}
	testkit.Spoil(all)
	testkit.Spoil(other)
	if want := []byte{1, 2, 4, 5, 2, 1, 7}; !bytes.Equal(b, want) {
		t.Errorf("the result shares memory: %v, want %v", b, want)
	}
	testkit.Spoil(b)
	if !bytes.Equal(all, []byte{254, 253, 252, 251, 250, 249, 248, 247}) {
		t.Errorf("the arguments share memory with a result: %v", all)
	}
}

// P3.4: Split neither changes nor retains its arguments, and its results have memory of their own.
func TestSplitMemory(t *testing.T) {
	all := []byte{5, 2, 1, 2, 6, 0, 7, 1, 3, 99, 98}
	given := bytes.Clone(all)
	ids := []byte{5, 6, 7}
	contents, e := Split(all[:9], ids...)
	if e != api.OK || !bytes.Equal(all, given) || !bytes.Equal(ids, []byte{5, 6, 7}) {
		t.Fatalf("error %d, or the arguments have been changed to %v, %v", e, all, ids)
	}
	testkit.Spoil(all)
	testkit.Spoil(ids)
	want := [][]byte{{1, 2}, nil, {3}}
	for k := range want {
		if !bytes.Equal(contents[k], want[k]) {
			t.Errorf("contents %d share memory: %v, want %v", k, contents[k], want[k])
		}
		testkit.Spoil(contents[k])
	}
	if testkit.Spoil(all); !bytes.Equal(all, given) {
		t.Errorf("the argument shares memory with a result: %v", all)
	}
}
