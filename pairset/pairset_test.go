package pairset

import (
	"math"
	"slices"
	"testing"

	"regcert/api"
	"regcert/testkit"
)

// p returns the pair of a register and a location.
func p(v int, l api.Loc) api.Pair {
	return api.Pair{V: v, L: l}
}

// The pairs of the model's sets: the bit k of a mask stands for pair k.
var universe = [...]api.Pair{{V: -1, L: 2}, {V: 0, L: -1}, {V: 0, L: 0}, {V: 0, L: 3}, {V: 1, L: 0}, {V: 2, L: 3}}

// set returns the pairs of the mask in their order, with unused capacity.
func set(mask int) []api.Pair {
	return testkit.PairsOf(universe[:], mask)
}

// checkSet compares two lists of pairs.
func checkSet(t *testing.T, what string, l, want []api.Pair) {
	t.Helper()
	if !slices.Equal(l, want) {
		t.Errorf("%s: %v, want %v", what, l, want)
	}
}

// lists calls f for all lists of at most n pairs from the universe. They have unused capacity.
func lists(n int, f func(l []api.Pair)) {
	l := make([]api.Pair, 0, n+2)
	var extend func()
	extend = func() {
		f(l)
		if len(l) == n {
			return
		}
		for _, q := range universe {
			l = append(l, q)
			extend()
			l = l[:len(l)-1]
		}
	}
	extend()
}

// The examples of the chapter.
func TestExamples(t *testing.T) {
	l := Make(p(1, 4), p(0, 6), p(1, 4))
	checkSet(t, "Make", l, []api.Pair{p(0, 6), p(1, 4)})
	if q, ok := Missing(l, []api.Pair{p(0, 6)}); q != p(1, 4) || !ok {
		t.Errorf("Missing: %v, %v", q, ok)
	}
}

// P11.1: the order, by register and then by location, also of extreme numbers.
func TestLess(t *testing.T) {
	l := testkit.EdgePairs()
	for i, a := range l {
		for j, b := range l {
			if got := Less(a, b); got != (i < j) {
				t.Errorf("Less(%v, %v) = %v", a, b, got)
			}
		}
	}
}

// P11.1: Sorted, for all short lists.
func TestSortedShort(t *testing.T) {
	lists(5, func(l []api.Pair) {
		if got, want := Sorted(l), slices.Equal(l, testkit.OrderedPairs(l)); got != want {
			t.Errorf("Sorted(%v) = %v", l, got)
		}
	})
	if !Sorted(nil) || !Sorted([]api.Pair{}) || !Sorted([]api.Pair{p(-1, math.MinInt)}) {
		t.Error("lists of at most one pair")
	}
}

// P11.1: Sorted, for a long list with two equal pairs or two in the wrong order anywhere.
func TestSortedLong(t *testing.T) {
	l := testkit.EdgePairs()
	if !Sorted(l) {
		t.Error("ascending list")
	}
	for k := 1; k < len(l); k++ {
		equal := slices.Insert(slices.Clone(l), k, l[k])
		if Sorted(equal) {
			t.Errorf("two equal pairs at %d", k)
		}
		wrong := slices.Clone(l)
		wrong[k-1], wrong[k] = l[k], l[k-1]
		if Sorted(wrong) {
			t.Errorf("wrong order at %d", k)
		}
	}
}

// P11.1: Make, for all short lists.
func TestMakeShort(t *testing.T) {
	checkSet(t, "Make of no pairs", Make(), nil)
	checkSet(t, "Make of an empty slice", Make([]api.Pair{}...), nil)
	lists(5, func(l []api.Pair) {
		if got, want := Make(l...), testkit.OrderedPairs(l); !slices.Equal(got, want) {
			t.Errorf("Make of %v: %v, want %v", l, got, want)
		}
	})
}

// P11.1: Make, for long lists with few and with many pairs that occur again.
func TestMakeLong(t *testing.T) {
	from := testkit.EdgePairs()
	s := testkit.Numbers(1)
	for range 500 {
		l := make([]api.Pair, s.Below(300))
		most := 1 + s.Below(len(from))
		for k := range l {
			l[k] = from[s.Below(most)]
		}
		if got, want := Make(l...), testkit.OrderedPairs(l); !slices.Equal(got, want) {
			t.Errorf("Make of %v: %v, want %v", l, got, want)
		}
	}
	descending := slices.Clone(from)
	slices.Reverse(descending)
	checkSet(t, "Make of a descending list", Make(descending...), from)
	checkSet(t, "Make of a pair set", Make(from...), from)
}

// P11.2: Has and Add, for all sets of the model and all pairs in and around them.
func TestHasAdd(t *testing.T) {
	for mask := range 1 << len(universe) {
		l := set(mask)
		for k, q := range universe {
			if got := Has(l, q); got != (mask>>k&1 == 1) {
				t.Errorf("Has(%v, %v) = %v", l, q, got)
			}
			checkSet(t, "Add", Add(l, q), set(mask|1<<k))
		}
		for v := -2; v < 4; v++ {
			for at := api.Loc(-2); at < 5; at++ {
				checkHasAdd(t, l, p(v, at))
			}
		}
		for _, q := range testkit.EdgePairs() {
			checkHasAdd(t, l, q)
		}
	}
}

// checkHasAdd compares Has and Add with a search for the pair in the whole set, and with the order of all pairs.
func checkHasAdd(t *testing.T, l []api.Pair, q api.Pair) {
	t.Helper()
	if got, want := Has(l, q), slices.Contains(l, q); got != want {
		t.Errorf("Has(%v, %v) = %v", l, q, got)
	}
	checkSet(t, "Add", Add(l, q), testkit.OrderedPairs(append(slices.Clone(l), q)))
}

// P11.2: Has finds every pair of a long set and none between them.
func TestHasLong(t *testing.T) {
	l := testkit.EdgePairs()
	for k, q := range l {
		without := slices.Delete(slices.Clone(l), k, k+1)
		if !Has(l, q) || Has(without, q) {
			t.Errorf("Has of %v at %d", q, k)
		}
		checkSet(t, "Add to the set without the pair", Add(without, q), l)
		checkSet(t, "Add to the set with the pair", Add(l, q), l)
	}
}

// P11.2, P11.4: Union, Missing and Subset, for all two sets of the model.
func TestTwoSets(t *testing.T) {
	for x := range 1 << len(universe) {
		for y := range 1 << len(universe) {
			a, b := set(x), set(y)
			checkSet(t, "Union", Union(a, b), set(x|y))
			first := set(x &^ y)
			q, misses := Missing(a, b)
			if misses != (len(first) > 0) || misses && q != first[0] || !misses && q != p(0, 0) {
				t.Errorf("Missing(%v, %v) = %v, %v", a, b, q, misses)
			}
			if got := Subset(a, b); got != (len(first) == 0) {
				t.Errorf("Subset(%v, %v) = %v", a, b, got)
			}
		}
	}
}

// P11.2, P11.4: the same for parts of a long set, also where one of them is empty, or ends before the other one begins.
func TestTwoLongSets(t *testing.T) {
	all := testkit.EdgePairs()
	s := testkit.Numbers(2)
	for range 2000 {
		var a, b, either, only []api.Pair
		from, to, rate := s.Below(len(all)+1), s.Below(len(all)+1), 1+s.Below(6)
		for k, q := range all {
			inA, inB := k >= from && s.Below(rate) == 0, k < to && s.Below(3) > 0
			if inA {
				a = append(a, q)
			}
			if inB {
				b = append(b, q)
			}
			if inA || inB {
				either = append(either, q)
			}
			if inA && !inB {
				only = append(only, q)
			}
		}
		checkSet(t, "Union", Union(a, b), either)
		checkSet(t, "Union", Union(b, a), either)
		q, misses := Missing(a, b)
		if want := append(only, p(0, 0))[0]; q != want || misses != (len(only) > 0) || Subset(a, b) == misses {
			t.Errorf("Missing(%v, %v) = %v, %v, want %v", a, b, q, misses, want)
		}
		if q, misses := Missing(a, either); q != p(0, 0) || misses || !Subset(b, either) {
			t.Errorf("Missing(%v, %v) = %v, %v", a, either, q, misses)
		}
	}
}

// P11.4: a missing zero pair differs from none by the second result.
func TestMissingZero(t *testing.T) {
	zero := []api.Pair{p(0, 0)}
	for _, x := range []struct {
		a, b   []api.Pair
		q      api.Pair
		misses bool
	}{
		{zero, nil, p(0, 0), true}, {zero, []api.Pair{}, p(0, 0), true}, {zero, zero, p(0, 0), false}, {nil, zero, p(0, 0), false}, {nil, nil, p(0, 0), false}, {[]api.Pair{}, nil, p(0, 0), false},
		{zero, []api.Pair{p(0, 1)}, p(0, 0), true}, {zero, []api.Pair{p(-1, 5)}, p(0, 0), true}, {[]api.Pair{p(-1, 0), p(0, 0)}, []api.Pair{p(-1, 0)}, p(0, 0), true}, {[]api.Pair{p(0, 0), p(7, 7)}, zero, p(7, 7), true},
	} {
		if q, misses := Missing(x.a, x.b); q != x.q || misses != x.misses {
			t.Errorf("Missing(%v, %v) = %v, %v", x.a, x.b, q, misses)
		}
		if Subset(x.a, x.b) == x.misses {
			t.Errorf("Subset(%v, %v)", x.a, x.b)
		}
	}
}

// checkDrops compares DropV and DropL with the pairs that are not removed from a copy.
func checkDrops(t *testing.T, l []api.Pair, v int) {
	t.Helper()
	var wantV, wantL []api.Pair
	for _, q := range l {
		if q.V != v {
			wantV = append(wantV, q)
		}
		if q.L != api.Loc(v) {
			wantL = append(wantL, q)
		}
	}
	if got := DropV(l, v); !slices.Equal(got, wantV) {
		t.Errorf("DropV(%v, %d) = %v, want %v", l, v, got, wantV)
	}
	if got := DropL(l, api.Loc(v)); !slices.Equal(got, wantL) {
		t.Errorf("DropL(%v, %d) = %v, want %v", l, v, got, wantL)
	}
}

// P11.3: DropV and DropL keep the other pairs in their order, also those that occur again, in lists that need not be pair sets.
func TestDrop(t *testing.T) {
	lists(4, func(l []api.Pair) {
		for _, v := range testkit.Around(3) {
			checkDrops(t, l, v)
		}
	})
	all := testkit.EdgePairs()
	for _, v := range testkit.Around(3) {
		checkDrops(t, all, v)
		checkDrops(t, append(slices.Clone(all), all...), v)
	}
	l := []api.Pair{p(2, 1), p(1, 2), p(2, 1), p(0, 2), p(1, 1), p(1, 2)}
	checkSet(t, "DropV", DropV(l, 1), []api.Pair{p(2, 1), p(2, 1), p(0, 2)})
	checkSet(t, "DropL", DropL(l, 1), []api.Pair{p(1, 2), p(0, 2), p(1, 2)})
	checkSet(t, "DropV of nil", DropV(nil, 0), nil)
	checkSet(t, "DropL of nil", DropL(nil, 0), nil)
}

// P11.5: sets that are built in different ways are equal.
func TestBuilt(t *testing.T) {
	s := testkit.Numbers(3)
	from := testkit.EdgePairs()
	for range 300 {
		l := make([]api.Pair, s.Below(40))
		for k := range l {
			l[k] = from[s.Below(len(from))]
		}
		want := Make(l...)
		if !Sorted(want) {
			t.Fatalf("%v is not sorted", want)
		}
		var up, down, joined []api.Pair
		for k := range l {
			up, down = Add(up, l[k]), Add(down, l[len(l)-1-k])
		}
		checkSet(t, "Add in order", up, want)
		checkSet(t, "Add in the other order", down, want)
		for k := 0; k < len(l); k += 7 {
			joined = Union(Make(l[k:min(k+7, len(l))]...), joined)
		}
		checkSet(t, "Union of parts", joined, want)
		rest := DropV(append(slices.Clone(from), l...), 0)
		checkSet(t, "dropped later", DropV(Union(from, want), 0), Make(rest...))
	}
}

// results calls f with the result of each function that returns pairs, by name, for a set, another one and a pair.
func results(a, b []api.Pair, q api.Pair, f func(what string, call func() []api.Pair)) {
	f("Make", func() []api.Pair { return Make(a...) })
	f("Add", func() []api.Pair { return Add(a, q) })
	f("DropV", func() []api.Pair { return DropV(a, q.V) })
	f("DropL", func() []api.Pair { return DropL(a, q.L) })
	f("Union", func() []api.Pair { return Union(a, b) })
}

// checkMemory checks that no function modifies its arguments or shares memory with them.
func checkMemory(t *testing.T, a, b []api.Pair, q api.Pair) {
	t.Helper()
	wholeA, wholeB := testkit.WholePairs(a), testkit.WholePairs(b)
	unchanged := func(what string) {
		t.Helper()
		if !slices.Equal(testkit.WholePairs(a), wholeA) || !slices.Equal(testkit.WholePairs(b), wholeB) {
			t.Fatalf("%s of %v, %v and %v changes an argument", what, wholeA, wholeB, q)
		}
	}
	results(a, b, q, func(what string, call func() []api.Pair) {
		l := call()
		unchanged(what)
		kept := slices.Clone(l)
		testkit.SpoilPairs(a)
		testkit.SpoilPairs(b)
		if !slices.Equal(l, kept) {
			t.Errorf("%s shares memory with an argument", what)
		}
		testkit.SpoilPairs(a)
		testkit.SpoilPairs(b)
		testkit.SpoilPairs(l)
		unchanged(what + ", by a change of the result,")
	})
	Sorted(a)
	Has(a, q)
	Missing(a, b)
	Subset(a, b)
	unchanged("Sorted, Has, Missing or Subset")
}

// P11.6: arguments and their unused capacity are not modified, and results share no memory with them, also where the result equals an argument.
func TestMemory(t *testing.T) {
	for x := range 1 << len(universe) {
		for _, y := range []int{0, x, ^x, 1, 1 << 5, 21, 42, 63} {
			for _, q := range append([]api.Pair{p(-5, -5), p(1, 1), p(5, 5)}, universe[:]...) {
				checkMemory(t, set(x), set(y), q)
				checkMemory(t, set(x), nil, q)
				checkMemory(t, nil, set(x), q)
			}
		}
	}
	// Lists that are not pair sets, for the functions that accept them.
	lists(4, func(l []api.Pair) {
		checkUnsorted(t, l)
	})
}

// checkUnsorted checks Make, DropV, DropL and Sorted like checkMemory, for a list that may be no pair set.
func checkUnsorted(t *testing.T, l []api.Pair) {
	t.Helper()
	before := testkit.WholePairs(l)
	Sorted(l)
	for _, r := range [][]api.Pair{Make(l...), DropV(l, 0), DropV(l, 9), DropL(l, 0), DropL(l, 9)} {
		testkit.SpoilPairs(r)
		if !slices.Equal(testkit.WholePairs(l), before) {
			t.Fatalf("%v is changed", before)
		}
	}
}

// All promises for sets with as many pairs as certificates may have.
func TestLargeSets(t *testing.T) {
	const n = 1 << 20
	even, odd, all := make([]api.Pair, n), make([]api.Pair, n), make([]api.Pair, 2*n)
	for k := range n {
		even[k], odd[k] = p(k/2, api.Loc(4*(k%2))), p(k/2, api.Loc(4*(k%2)+2))
		all[2*k], all[2*k+1] = even[k], odd[k]
	}
	if !Sorted(all) || Sorted(append(slices.Clone(all), all[0])) {
		t.Error("Sorted")
	}
	if !slices.Equal(Union(even, odd), all) || !slices.Equal(Union(odd, even), all) || !slices.Equal(Union(all, odd), all) {
		t.Error("Union")
	}
	if !slices.Equal(Make(slices.Concat(odd, even, odd)...), all) {
		t.Error("Make")
	}
	last := n - 1
	if q, misses := Missing(even, even[:last]); q != even[last] || !misses || !Subset(even, all) || !Subset(odd, all) || Subset(all, even) {
		t.Error("Missing")
	}
	for k := range n {
		if !Has(even, even[k]) || Has(even, odd[k]) {
			t.Fatalf("Has of pair %d", k)
		}
	}
	if !slices.Equal(Add(all[:2*n-1], odd[last]), all) || !slices.Equal(Add(all[1:], even[0]), all) || !slices.Equal(Add(all, odd[0]), all) {
		t.Error("Add")
	}
	if !slices.Equal(DropV(all, 0), all[4:]) || !slices.Equal(DropL(DropL(all, 2), 6), even) {
		t.Error("Drop")
	}
}
