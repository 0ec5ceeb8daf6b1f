package testkit

import (
	"math"
	"slices"
	"sort"

	"regcert/api"
)

// EdgePairs returns pairs around 0, extreme ones, and those whose low bits are a small number, in their order.
func EdgePairs() []api.Pair {
	numbers := []int{math.MinInt, math.MinInt + 1, -1 << 32, -2, -1, 0, 1, 2, 1 << 32, 1<<32 + 1, math.MaxInt - 1, math.MaxInt}
	var l []api.Pair
	for _, v := range numbers {
		for _, at := range numbers {
			l = append(l, api.Pair{V: v, L: api.Loc(at)})
		}
	}
	return l
}

// OrderedPairs returns the pairs of l in ascending order, each once, by the wording of layer 11's definitions.
func OrderedPairs(l []api.Pair) []api.Pair {
	in := map[api.Pair]bool{}
	var set []api.Pair
	for _, q := range l {
		if !in[q] {
			set = append(set, q)
		}
		in[q] = true
	}
	sort.Slice(set, func(i, j int) bool {
		if set[i].V != set[j].V {
			return set[i].V < set[j].V
		}
		return set[i].L < set[j].L
	})
	return set
}

// PairsOf returns the pairs of l whose bit of the mask is 1, in their order, with unused capacity.
func PairsOf(l []api.Pair, mask int) []api.Pair {
	some := make([]api.Pair, 0, len(l)+3)
	for k, q := range l {
		if mask>>k&1 == 1 {
			some = append(some, q)
		}
	}
	return some
}

// WholePairs returns a copy of l with its unused capacity.
func WholePairs(l []api.Pair) []api.Pair {
	return slices.Clone(l[:cap(l)])
}

// SpoilPairs changes all pairs of l and of its unused capacity, which shows in whatever shares its memory. Twice, it leaves l as it was.
func SpoilPairs(l []api.Pair) {
	l = l[:cap(l)]
	for k := range l {
		l[k].V, l[k].L = ^l[k].V, ^l[k].L
	}
}
