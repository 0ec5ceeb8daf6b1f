package certcode

import (
	"slices"

	"regcert/api"
	"regcert/cursor"
	"regcert/funccode"
	"regcert/testkit"
	"regcert/varint"
	"regcert/witness"
)

func join(parts ...[]byte) []byte { return slices.Concat(parts...) }

// sectionOf is the encoding of a section by the wording of layer 3.
func sectionOf(id byte, contents []byte) []byte {
	return join([]byte{id}, testkit.Digits(len(contents)), contents)
}

// packed is the encoding of a certificate whose sections have these contents, by the wording of the definition.
func packed(s, t, w []byte) []byte {
	return join([]byte{82, 67, 1}, sectionOf(1, s), sectionOf(2, t), sectionOf(3, w))
}

// written returns what put writes.
func written(put func(w *cursor.Writer)) []byte {
	var w cursor.Writer
	put(&w)
	return w.Out()
}

// contentsOf are the contents of the sections in the encoding of c, by the wording of the definition.
func contentsOf(c api.Cert) [3][]byte {
	return [3][]byte{
		written(func(w *cursor.Writer) { funccode.PutFunc(w, c.S) }),
		written(func(w *cursor.Writer) { funccode.PutMFunc(w, c.T) }),
		written(func(w *cursor.Writer) { witness.Put(w, c.W) }),
	}
}

// encoding is the encoding of c.
func encoding(c api.Cert) []byte {
	l := contentsOf(c)
	return packed(l[0], l[1], l[2])
}

// headerModel is the first error of the first three bytes, by the wording of P20.2.
func headerModel(b []byte) api.Errno {
	switch {
	case len(b) < 2:
		return api.ErrShort
	case b[0] != 82 || b[1] != 67:
		return api.ErrMagic
	case len(b) == 2:
		return api.ErrShort
	case b[2] != 1:
		return api.ErrVersion
	}
	return api.OK
}

// splitModel returns the contents of the sections 1, 2 and 3 in b, and the first error, by the wording of P3.2.
func splitModel(b []byte) ([3][]byte, api.Errno) {
	var l [3][]byte
	for k := range l {
		switch {
		case len(b) == 0:
			return l, api.ErrShort
		case int(b[0]) != k+1:
			return l, api.ErrSection
		}
		size, n, e := varint.Get(b[1:])
		if e != api.OK {
			return l, e
		}
		b = b[1+n:]
		if size > uint64(len(b)) {
			return l, api.ErrShort
		}
		l[k], b = b[:size], b[size:]
	}
	if len(b) > 0 {
		return l, api.ErrLong
	}
	return l, api.OK
}

// all returns what read reads at the beginning of b, and the first of its error and ErrLong.
func all[V any](b []byte, read func(c *cursor.Cursor) V) (V, api.Errno) {
	c := cursor.New(b)
	v := read(c)
	if c.Err() == api.OK && c.At() != len(b) {
		return v, api.ErrLong
	}
	return v, c.Err()
}

// model is what Decode must return, by the wording of P20.2.
func model(b []byte) (api.Cert, api.Errno) {
	var c api.Cert
	var l [3][]byte
	for _, step := range []func() api.Errno{
		func() api.Errno { return headerModel(b) },
		func() (e api.Errno) { l, e = splitModel(b[3:]); return },
		func() (e api.Errno) { c.S, e = all(l[0], funccode.Func); return },
		func() (e api.Errno) { c.T, e = all(l[1], funccode.MFunc); return },
		func() api.Errno {
			if len(c.S.Blocks) != len(c.T.Blocks) || c.S.Args != c.T.Args {
				return api.ErrCount
			}
			return api.OK
		},
		func() (e api.Errno) {
			c.W, e = all(l[2], func(r *cursor.Cursor) [][]api.Pair {
				return witness.Get(r, len(c.T.Blocks), c.S.Regs, c.T.Regs, c.T.Slots)
			})
			return
		},
	} {
		if e := step(); e != api.OK {
			return api.Cert{}, e
		}
	}
	return c, api.OK
}
