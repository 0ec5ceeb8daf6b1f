package transfer

import (
	"slices"
	"strconv"
	"testing"

	"regcert/api"
	"regcert/testkit"
)

// p returns the pair of a register and a location.
func p(v int, l api.Loc) api.Pair {
	return api.Pair{V: v, L: l}
}

// The pairs of the small sets: three registers, each with three locations. There is space between and around the numbers.
var universe = [...]api.Pair{{V: 0, L: 0}, {V: 0, L: 1}, {V: 0, L: 4}, {V: 1, L: 0}, {V: 1, L: 1}, {V: 1, L: 4}, {V: 3, L: 0}, {V: 3, L: 1}, {V: 3, L: 4}}

// set returns the pairs of the universe whose bit of the mask is 1, in their order, with unused capacity.
func set(mask int) []api.Pair {
	return testkit.PairsOf(universe[:], mask)
}

// A change is one of the functions with the numbers that it is called with: x is d or dst, and y is a, src or the location of a definition.
type change struct {
	what string
	x, y int
}

// changes returns all changes with these numbers.
func changes(numbers []int) []change {
	var all []change
	for _, what := range []string{"Copy", "Move", "Define"} {
		for _, x := range numbers {
			for _, y := range numbers {
				all = append(all, change{what, x, y})
			}
		}
	}
	return all
}

// call returns what the function returns for l.
func (c change) call(l []api.Pair) []api.Pair {
	switch c.what {
	case "Copy":
		return Copy(l, c.x, c.y)
	case "Move":
		return Move(l, api.Loc(c.x), api.Loc(c.y))
	}
	return Define(l, c.x, api.Loc(c.y))
}

// text returns the call for a message.
func (c change) text() string {
	return c.what + " with " + strconv.Itoa(c.x) + " and " + strconv.Itoa(c.y)
}

// model returns the pair set after the change, by the wording of the definitions.
func (c change) model(l []api.Pair) []api.Pair {
	if c.what != "Define" && c.x == c.y {
		return testkit.OrderedPairs(l)
	}
	var after []api.Pair
	for _, q := range l {
		if !c.removes(q) {
			after = append(after, q)
		}
		switch {
		case c.what == "Copy" && q.V == c.y:
			after = append(after, p(c.x, q.L))
		case c.what == "Move" && q.L == api.Loc(c.y):
			after = append(after, p(q.V, api.Loc(c.x)))
		}
	}
	if c.what == "Define" {
		after = append(after, p(c.x, api.Loc(c.y)))
	}
	return testkit.OrderedPairs(after)
}

// removes reports whether q is among the pairs that the change removes first.
func (c change) removes(q api.Pair) bool {
	switch c.what {
	case "Copy":
		return q.V == c.x
	case "Move":
		return q.L == api.Loc(c.x)
	}
	return q.V == c.x || q.L == api.Loc(c.y)
}

// checkSet compares two lists of pairs.
func checkSet(t *testing.T, what string, l, want []api.Pair) {
	t.Helper()
	if !slices.Equal(l, want) {
		t.Errorf("%s: %v, want %v", what, l, want)
	}
}

// The examples of the chapter.
func TestExamples(t *testing.T) {
	l := []api.Pair{p(0, 2), p(1, 4)}
	checkSet(t, "Copy", Copy(l, 1, 0), []api.Pair{p(0, 2), p(1, 2)})
	checkSet(t, "Move", Move(l, 4, 2), []api.Pair{p(0, 2), p(0, 4)})
}

// P12.1: the edge cases by hand.
func TestTable(t *testing.T) {
	l := []api.Pair{p(1, 1), p(1, 3), p(2, 2), p(3, 1), p(5, 3)}
	for _, x := range []struct {
		l    []api.Pair
		c    change
		want []api.Pair
	}{
		// A copy to a register without pairs, before, between and behind the others.
		{l, change{"Copy", 0, 1}, []api.Pair{p(0, 1), p(0, 3), p(1, 1), p(1, 3), p(2, 2), p(3, 1), p(5, 3)}},
		{l, change{"Copy", 4, 1}, []api.Pair{p(1, 1), p(1, 3), p(2, 2), p(3, 1), p(4, 1), p(4, 3), p(5, 3)}},
		{l, change{"Copy", 6, 2}, []api.Pair{p(1, 1), p(1, 3), p(2, 2), p(3, 1), p(5, 3), p(6, 2)}},
		// A copy to a register with pairs: those that it does not keep are removed, also if its source has none.
		{l, change{"Copy", 1, 3}, []api.Pair{p(1, 1), p(2, 2), p(3, 1), p(5, 3)}},
		{l, change{"Copy", 3, 1}, []api.Pair{p(1, 1), p(1, 3), p(2, 2), p(3, 1), p(3, 3), p(5, 3)}},
		{l, change{"Copy", 1, 4}, []api.Pair{p(2, 2), p(3, 1), p(5, 3)}},
		{l, change{"Copy", 4, 0}, l},
		// A copy of a register to itself.
		{l, change{"Copy", 1, 1}, l}, {l, change{"Copy", 4, 4}, l}, {nil, change{"Copy", 0, 0}, nil}, {nil, change{"Copy", 0, 1}, nil},
		// A move to a location without pairs, before, between and behind the others.
		{l, change{"Move", 0, 1}, []api.Pair{p(1, 0), p(1, 1), p(1, 3), p(2, 2), p(3, 0), p(3, 1), p(5, 3)}},
		{l, change{"Move", 9, 3}, []api.Pair{p(1, 1), p(1, 3), p(1, 9), p(2, 2), p(3, 1), p(5, 3), p(5, 9)}},
		// A move to a location with pairs: those that it does not keep are removed, also if its source has none.
		{l, change{"Move", 3, 1}, []api.Pair{p(1, 1), p(1, 3), p(2, 2), p(3, 1), p(3, 3)}},
		{l, change{"Move", 1, 2}, []api.Pair{p(1, 3), p(2, 1), p(2, 2), p(5, 3)}},
		{l, change{"Move", 3, 9}, []api.Pair{p(1, 1), p(2, 2), p(3, 1)}},
		{l, change{"Move", 0, 9}, l},
		// A move of a location to itself.
		{l, change{"Move", 3, 3}, l}, {l, change{"Move", 0, 0}, l}, {nil, change{"Move", 0, 0}, nil}, {nil, change{"Move", 0, 1}, nil},
		// A definition, of a pair that is in the set, and of one that is not.
		{l, change{"Define", 1, 1}, []api.Pair{p(1, 1), p(2, 2), p(5, 3)}},
		{l, change{"Define", 2, 2}, l},
		{l, change{"Define", 2, 3}, []api.Pair{p(1, 1), p(2, 3), p(3, 1)}},
		{l, change{"Define", 0, 3}, []api.Pair{p(0, 3), p(1, 1), p(2, 2), p(3, 1)}},
		{l, change{"Define", 1, 0}, []api.Pair{p(1, 0), p(2, 2), p(3, 1), p(5, 3)}},
		{l, change{"Define", 4, 4}, []api.Pair{p(1, 1), p(1, 3), p(2, 2), p(3, 1), p(4, 4), p(5, 3)}},
		{nil, change{"Define", 0, 0}, []api.Pair{p(0, 0)}},
	} {
		checkSet(t, x.c.text(), x.c.call(x.l), x.want)
	}
}

// P12.1: all small sets, and all registers and locations in and around them.
func TestSmallSets(t *testing.T) {
	all := changes([]int{-1, 0, 1, 2, 3, 4, 5})
	for mask := range 1 << len(universe) {
		l := set(mask)
		for _, c := range all {
			checkSet(t, c.text(), c.call(l), c.model(l))
		}
	}
}

// P12.1: longer sets, with extreme registers and locations and with those whose low bits are a small number.
func TestExtremeSets(t *testing.T) {
	from := testkit.EdgePairs()
	all := changes(testkit.Around(2))
	s := testkit.Numbers(1)
	for range 80 {
		var l []api.Pair
		rate := 1 + s.Below(8)
		for _, q := range from {
			if s.Below(rate) == 0 {
				l = append(l, q)
			}
		}
		for _, c := range all {
			checkSet(t, c.text(), c.call(l), c.model(l))
		}
	}
}

// P12.1: changes one after the other, each of the result of the one before.
func TestSequences(t *testing.T) {
	all := changes([]int{0, 1, 2, 3, 4, 5, 6})
	s := testkit.Numbers(2)
	for range 100 {
		var l, want []api.Pair
		for range 100 {
			c := all[s.Below(len(all))]
			l, want = c.call(l), c.model(want)
			checkSet(t, c.text(), l, want)
		}
	}
}

// A store has values of the registers 0 to 2 and of the locations 0 to 2.
type store struct {
	registers, locations [3]int
}

// holding returns the pairs that hold for s.
func (s store) holding() []api.Pair {
	var l []api.Pair
	for v := range s.registers {
		for at := range s.locations {
			if s.registers[v] == s.locations[at] {
				l = append(l, p(v, api.Loc(at)))
			}
		}
	}
	return l
}

// after returns the store after the change; a definition has the value fresh.
func (s store) after(c change, fresh int) store {
	switch c.what {
	case "Copy":
		s.registers[c.x] = s.registers[c.y]
	case "Move":
		s.locations[c.x] = s.locations[c.y]
	case "Define":
		s.registers[c.x], s.locations[c.y] = fresh, fresh
	}
	return s
}

// stores calls f for all stores with values from 0 to n - 1.
func stores(n int, f func(s store)) {
	var s store
	var fill func(k int)
	fill = func(k int) {
		if k == 6 {
			f(s)
			return
		}
		for value := range n {
			if k < 3 {
				s.registers[k] = value
			} else {
				s.locations[k-3] = value
			}
			fill(k + 1)
		}
	}
	fill(0)
}

// P12.2: if the pairs of a set hold, those of the result hold afterwards, whatever value is defined.
func TestHolds(t *testing.T) {
	all := changes([]int{0, 1, 2})
	stores(3, func(s store) {
		now := s.holding()
		for mask := range 1 << len(now) {
			l := testkit.PairsOf(now, mask)
			for _, c := range all {
				checkHolds(t, s, l, c)
			}
		}
	})
}

// checkHolds checks that the pairs of the result for l hold after the change of s, for values that s has and one that it does not have.
func checkHolds(t *testing.T, s store, l []api.Pair, c change) {
	t.Helper()
	result := c.call(l)
	for value := range 4 {
		later := s.after(c, value)
		for _, q := range result {
			if later.registers[q.V] != later.locations[q.L] {
				t.Errorf("%s: %v does not hold after %v, %v", c.text(), q, s, l)
			}
		}
	}
}

// P12.2: if exactly the pairs of a set hold, and a definition has a new value, exactly those of the result hold afterwards.
func TestHoldsExactly(t *testing.T) {
	all := changes([]int{0, 1, 2})
	stores(4, func(s store) {
		for _, c := range all {
			checkSet(t, c.text(), c.call(s.holding()), s.after(c, 4).holding())
		}
	})
}

// checkMemory checks that a change neither modifies its argument nor shares memory with it.
func checkMemory(t *testing.T, l []api.Pair, c change) {
	t.Helper()
	before := testkit.WholePairs(l)
	result := c.call(l)
	if !slices.Equal(testkit.WholePairs(l), before) {
		t.Fatalf("%s changes %v", c.text(), before)
	}
	kept := slices.Clone(result)
	testkit.SpoilPairs(l)
	if !slices.Equal(result, kept) {
		t.Errorf("%s of %v shares memory with it", c.text(), before)
	}
	testkit.SpoilPairs(l)
	testkit.SpoilPairs(result)
	if !slices.Equal(testkit.WholePairs(l), before) {
		t.Fatalf("%s of %v shares memory with it", c.text(), before)
	}
}

// P12.3: arguments and their unused capacity are not modified, and results share no memory with them, also where the result equals the argument.
func TestMemory(t *testing.T) {
	all := changes([]int{0, 1, 2, 3, 4})
	for mask := range 1 << len(universe) {
		for _, c := range all {
			checkMemory(t, set(mask), c)
		}
	}
	for _, c := range all {
		checkMemory(t, nil, c)
	}
}

// P12.1: sets with as many pairs as certificates may have.
func TestLargeSets(t *testing.T) {
	const n = 1 << 20
	of := func(pair func(k int) api.Pair) []api.Pair {
		l := make([]api.Pair, n)
		for k := range l {
			l[k] = pair(k)
		}
		return l
	}
	row := func(v int) []api.Pair { return of(func(k int) api.Pair { return p(v, api.Loc(k)) }) }
	column := func(at api.Loc) []api.Pair { return of(func(k int) api.Pair { return p(k, at) }) }
	for k, x := range []struct{ got, want []api.Pair }{
		{Copy(row(1), 0, 1), slices.Concat(row(0), row(1))}, {Copy(row(1), 2, 1), slices.Concat(row(1), row(2))}, {Copy(row(1), 1, 1), row(1)}, {Copy(row(1), 1, 2), nil}, {Copy(column(5), 7, n-1), column(5)},
		{Move(row(1), 0, n-1), row(1)}, {Move(column(5), 5, 5), column(5)}, {Move(column(5), 5, 3), nil}, {Move(Move(column(5), 6, 5), 5, 9), column(6)},
		{Define(row(1), 1, 7), []api.Pair{p(1, 7)}}, {Define(column(5), 7, 5), []api.Pair{p(7, 5)}}, {Define(row(1), 2, n-1), append(row(1)[:n-1], p(2, n-1))},
	} {
		if !slices.Equal(x.got, x.want) {
			t.Errorf("case %d: %d pairs, want %d", k, len(x.got), len(x.want))
		}
	}
	both := Move(column(5), 6, 5)
	if len(both) != 2*n || both[0] != p(0, 5) || both[1] != p(0, 6) || both[2*n-1] != p(n-1, 6) {
		t.Error("Move of a location with many registers")
	}
}
