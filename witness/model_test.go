package witness

import (
	"math/big"

	"regcert/api"
	"regcert/cursor"
	"regcert/edge"
	"regcert/testkit"
	"regcert/varint"
)

// sizes are the numbers that are passed to Get.
type sizes struct{ blocks, vregs, regs, slots int }

// get calls Get.
func (n sizes) get(c *cursor.Cursor) [][]api.Pair {
	return Get(c, n.blocks, n.vregs, n.regs, n.slots)
}

// valid calls Valid of layer 15.
func (n sizes) valid(l [][]api.Pair) bool {
	return edge.Valid(l, n.blocks, n.vregs, n.regs, n.slots) == api.OK
}

// out returns what Put writes.
func out(l [][]api.Pair) []byte {
	var w cursor.Writer
	Put(&w, l)
	return w.Out()
}

// encoding is the encoding of invariants by the wording of the definition.
func encoding(l [][]api.Pair) []byte {
	var b []byte
	for _, pairs := range l {
		b = append(b, testkit.Digits(len(pairs))...)
		for k, q := range pairs {
			difference, second := q.V, int(q.L)
			if k > 0 {
				difference = q.V - pairs[k-1].V
				if difference == 0 {
					second = int(q.L) - int(pairs[k-1].L) - 1
				}
			}
			b = append(b, testkit.Digits(difference, second)...)
		}
	}
	return b
}

// model is what reading invariants at the beginning of b must result in, by the wording of P19.2, with their length.
func (n sizes) model(b []byte) ([][]api.Pair, int, api.Errno) {
	var l [][]api.Pair
	at, sum := 0, 0
	for range n.blocks {
		count, k, e := countModel(b[at:])
		if sum += count; e == api.OK && sum > 1<<20 {
			e = api.ErrLimit
		}
		at += k
		var pairs []api.Pair
		for len(pairs) < count && e == api.OK {
			var q api.Pair
			q, k, e = n.pairModel(b[at:], pairs)
			pairs = append(pairs, q)
			at += k
		}
		if e != api.OK {
			return nil, 0, e
		}
		l = append(l, pairs)
	}
	return l, at, api.OK
}

// countModel is what reading the number of pairs at the beginning of b must result in, by the wording of P2.2, with its length.
func countModel(b []byte) (int, int, api.Errno) {
	v, n, e := varint.Get(b)
	switch {
	case e != api.OK:
		return 0, 0, e
	case v > 1<<20:
		return 0, 0, api.ErrLimit
	case 2*int(v) > len(b)-n:
		return 0, 0, api.ErrShort
	}
	return int(v), n, api.OK
}

// pairModel is what reading a pair at the beginning of b must result in, behind other pairs of its invariant, with its length. It adds unlimited integers.
func (n sizes) pairModel(b []byte, before []api.Pair) (api.Pair, int, api.Errno) {
	first, k, e := varint.Get(b)
	if e != api.OK {
		return api.Pair{}, 0, e
	}
	register := new(big.Int).SetUint64(first)
	if len(before) > 0 {
		register.Add(register, big.NewInt(int64(before[len(before)-1].V)))
	}
	if register.Cmp(big.NewInt(int64(n.vregs))) >= 0 {
		return api.Pair{}, 0, api.ErrReg
	}
	second, m, e := varint.Get(b[k:])
	if e != api.OK {
		return api.Pair{}, 0, e
	}
	place := new(big.Int).SetUint64(second)
	if len(before) > 0 && first == 0 {
		place.Add(place, big.NewInt(int64(before[len(before)-1].L)+1))
	}
	if !n.has(place) {
		return api.Pair{}, 0, api.ErrLoc
	}
	return api.Pair{V: int(register.Int64()), L: api.Loc(place.Int64())}, k + m, api.OK
}

// has reports whether a location is in range, by the wording of layer 4: register l/2 if l is even, and slot (l-1)/2 if it is odd.
func (n sizes) has(place *big.Int) bool {
	most := n.regs
	if place.Bit(0) == 1 {
		most = n.slots
	}
	return new(big.Int).Rsh(place, 1).Cmp(big.NewInt(int64(most))) < 0
}
