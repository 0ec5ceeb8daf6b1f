package align

import (
	"math"
	"slices"
	"testing"

	"regcert/api"
	"regcert/testkit"
)

// source returns an instruction for each letter: c is a copy, m has OpMove, which valid source functions do not have, a adds, n negates, k and l are constants with different values, and z has no opcode. The fields that do not matter are different everywhere. The unused capacity has an instruction and a copy.
func source(letters string) []api.Instr {
	code := make([]api.Instr, 0, len(letters)+2)
	for k, letter := range letters + "ac" {
		i := api.Instr{D: k, A: 2 * k, B: 3 * k}
		i.Op, i.Imm = opcodeOf(letter)
		code = append(code, i)
	}
	return code[:len(letters)]
}

// allocated returns an allocated instruction for each letter; here, c has OpCopy, which valid allocated functions do not have, and m is a move. The unused capacity has an instruction and a move.
func allocated(letters string) []api.Mach {
	code := make([]api.Mach, 0, len(letters)+2)
	for k, letter := range letters + "am" {
		m := api.Mach{D: 5 * k, A: k + 1, B: 7, Dst: api.Loc(k), Src: api.Loc(2 * k)}
		m.Op, m.Imm = opcodeOf(letter)
		code = append(code, m)
	}
	return code[:len(letters)]
}

// opcodeOf returns the opcode and the immediate for a letter. The opcodes are written as numbers, so that their constants are compared too.
func opcodeOf(letter rune) (int, int64) {
	switch letter {
	case 'c':
		return 2, 0
	case 'm':
		return 18, 0
	case 'a':
		return 5, 0
	case 'n':
		return 3, 0
	case 'k':
		return 1, 1
	case 'l':
		return 1, 1 + 1<<32
	}
	return 0, 0
}

// sameModel is Same by the wording of the definition.
func sameModel(i api.Instr, m api.Mach) bool {
	if i.Op == 2 || i.Op == 18 || m.Op == 2 || m.Op == 18 {
		return false
	}
	return i.Op == m.Op && i.Imm == m.Imm
}

// indices returns the numbers from 0 to n - 1 for which wanted is true.
func indices(n int, wanted func(k int) bool) []int {
	var l []int
	for k := range n {
		if wanted(k) {
			l = append(l, k)
		}
	}
	return l
}

// codeModel is Code by the wording of P13.2: it compares the blocks without copies and moves, and the ranges are what is between their instructions.
func codeModel(code []api.Instr, mach []api.Mach) ([]Row, int, api.Errno) {
	a := indices(len(code), func(k int) bool { return code[k].Op != 2 })
	b := indices(len(mach), func(k int) bool { return mach[k].Op != 18 })
	for turn, k := range b {
		if turn >= len(a) || !sameModel(code[a[turn]], mach[k]) {
			return nil, k, api.ErrAlign
		}
	}
	if len(a) != len(b) {
		return nil, len(mach), api.ErrAlign
	}
	var rows []Row
	copyFrom, moveFrom := 0, 0
	for turn := range a {
		rows = append(rows, Row{copyFrom, a[turn], moveFrom, b[turn], a[turn], b[turn]})
		copyFrom, moveFrom = a[turn]+1, b[turn]+1
	}
	return append(rows, Row{copyFrom, len(code), moveFrom, len(mach), -1, -1}), len(mach), api.OK
}

// checkCode compares Code with the model.
func checkCode(t *testing.T, code []api.Instr, mach []api.Mach) {
	t.Helper()
	rows, at, err := Code(code, mach)
	wantRows, wantAt, wantErr := codeModel(code, mach)
	if !slices.Equal(rows, wantRows) || at != wantAt || err != wantErr {
		t.Errorf("Code(%v, %v) = %v, %d, %d, want %v, %d, %d", code, mach, rows, at, err, wantRows, wantAt, wantErr)
	}
	if err != api.OK && rows != nil {
		t.Errorf("Code(%v, %v): rows together with an error", code, mach)
	}
}

// blocks calls f for all texts of at most n of the letters.
func blocks(letters string, n int, f func(text string)) {
	var extend func(text string)
	extend = func(text string) {
		f(text)
		if len(text) == n {
			return
		}
		for k := range len(letters) {
			extend(text + letters[k:k+1])
		}
	}
	extend("")
}

// The example of the chapter.
func TestExample(t *testing.T) {
	rows, at, err := Code(source("ca"), allocated("am"))
	want := []Row{{CopyFrom: 0, CopyTo: 1, Source: 1, Mach: 0}, {CopyFrom: 2, CopyTo: 2, MoveFrom: 1, MoveTo: 2, Source: -1, Mach: -1}}
	if !slices.Equal(rows, want) || at != 2 || err != api.OK {
		t.Errorf("%v, %d, %d", rows, at, err)
	}
}

// P13.1: Same, for all pairs of opcodes, those that are no opcodes among them.
func TestSameOpcodes(t *testing.T) {
	for _, a := range testkit.Opcodes() {
		for _, b := range testkit.Opcodes() {
			want := a == b && a != 2 && a != 18
			if got := Same(api.Instr{Op: a}, api.Mach{Op: b}); got != want {
				t.Errorf("Same with the opcodes %d and %d: %v", a, b, got)
			}
		}
	}
}

// P13.1: Same, for immediates, of all instructions, whether they use them or not.
func TestSameImmediates(t *testing.T) {
	for op := range 20 {
		for _, a := range testkit.Around(3) {
			for _, b := range testkit.Around(3) {
				want := a == b && op != 2 && op != 18
				if got := Same(api.Instr{Op: op, Imm: int64(a)}, api.Mach{Op: op, Imm: int64(b)}); got != want {
					t.Errorf("Same with opcode %d and the immediates %d and %d: %v", op, a, b, got)
				}
			}
		}
	}
}

// P13.1: the other fields of instructions do not matter to Same.
func TestSameOtherFields(t *testing.T) {
	i, m := api.Instr{Op: 1, Imm: 4}, api.Mach{Op: 1, Imm: 4}
	for _, v := range testkit.Around(3) {
		for _, x := range []api.Instr{{D: v}, {A: v}, {B: v}} {
			x.Op, x.Imm = i.Op, i.Imm
			if !Same(x, m) {
				t.Errorf("Same(%v, %v) is false", x, m)
			}
			if x.Op = 3; Same(x, m) {
				t.Errorf("Same(%v, %v) is true", x, m)
			}
		}
		for _, y := range []api.Mach{{D: v}, {A: v}, {B: v}, {Dst: api.Loc(v)}, {Src: api.Loc(v)}} {
			y.Op, y.Imm = m.Op, m.Imm
			if !Same(i, y) {
				t.Errorf("Same(%v, %v) is false", i, y)
			}
			if y.Imm = 5; Same(i, y) {
				t.Errorf("Same(%v, %v) is true", i, y)
			}
		}
	}
}

// P13.1: Terms compares the kinds and the targets, also those that the kind does not use, and kinds that do not exist.
func TestTerms(t *testing.T) {
	type field struct {
		what string
		of   func(t *api.Term) *int
	}
	fields := []field{
		{"Kind", func(t *api.Term) *int { return &t.Kind }}, {"To", func(t *api.Term) *int { return &t.To }},
		{"Else", func(t *api.Term) *int { return &t.Else }}, {"A", func(t *api.Term) *int { return &t.A }},
	}
	for kind := range 5 {
		for _, x := range fields {
			for _, v := range testkit.Around(3) {
				for _, w := range testkit.Around(3) {
					a := api.Term{Kind: kind, A: 4, To: 5, Else: 6}
					b := api.Term{Kind: kind, A: 7, To: 5, Else: 6}
					*x.of(&a), *x.of(&b) = v, w
					if got, want := Terms(a, b), v == w || x.what == "A"; got != want {
						t.Errorf("Terms(%v, %v) = %v", a, b, got)
					}
				}
			}
		}
	}
}

// P13.1: the targets of a branch have different roles.
func TestTermsSwapped(t *testing.T) {
	if Terms(api.Term{Kind: 2, To: 1, Else: 2}, api.Term{Kind: 2, To: 2, Else: 1}) {
		t.Error("targets in another order correspond")
	}
	if Terms(api.Term{Kind: 1, To: 2}, api.Term{Kind: 2, To: 1}) {
		t.Error("a kind and a target in another order correspond")
	}
	if Terms(api.Term{Kind: 1, To: 1}, api.Term{Kind: 1, Else: 1}) {
		t.Error("different targets correspond")
	}
}

// P13.2: alignments by hand.
func TestRows(t *testing.T) {
	for _, x := range []struct {
		code, mach string
		want       []Row
	}{
		// Empty blocks, and those with copies and moves only.
		{"", "", []Row{{0, 0, 0, 0, -1, -1}}},
		{"c", "", []Row{{0, 1, 0, 0, -1, -1}}},
		{"", "m", []Row{{0, 0, 0, 1, -1, -1}}},
		{"ccc", "mm", []Row{{0, 3, 0, 2, -1, -1}}},
		// No copies and no moves.
		{"a", "a", []Row{{0, 0, 0, 0, 0, 0}, {1, 1, 1, 1, -1, -1}}},
		{"ank", "ank", []Row{{0, 0, 0, 0, 0, 0}, {1, 1, 1, 1, 1, 1}, {2, 2, 2, 2, 2, 2}, {3, 3, 3, 3, -1, -1}}},
		// Before, between and behind the instructions.
		{"cca", "a", []Row{{0, 2, 0, 0, 2, 0}, {3, 3, 1, 1, -1, -1}}},
		{"a", "mma", []Row{{0, 0, 0, 2, 0, 2}, {1, 1, 3, 3, -1, -1}}},
		{"acc", "am", []Row{{0, 0, 0, 0, 0, 0}, {1, 3, 1, 2, -1, -1}}},
		{"aca", "ama", []Row{{0, 0, 0, 0, 0, 0}, {1, 2, 1, 2, 2, 2}, {3, 3, 3, 3, -1, -1}}},
		{"caccncc", "mmammnmm", []Row{{0, 1, 0, 2, 1, 2}, {2, 4, 3, 5, 4, 5}, {5, 7, 6, 8, -1, -1}}},
		{"zl", "zml", []Row{{0, 0, 0, 0, 0, 0}, {1, 1, 1, 2, 1, 2}, {2, 2, 3, 3, -1, -1}}},
	} {
		rows, at, err := Code(source(x.code), allocated(x.mach))
		if !slices.Equal(rows, x.want) || at != len(x.mach) || err != api.OK {
			t.Errorf("%q and %q: %v, %d, %d, want %v", x.code, x.mach, rows, at, err, x.want)
		}
	}
}

// P13.2: blocks without an alignment, by hand.
func TestErrors(t *testing.T) {
	for _, x := range []struct {
		code, mach string
		at         int
	}{
		// Instructions that do not correspond, the first of them.
		{"a", "n", 0}, {"a", "mn", 1}, {"an", "ak", 1}, {"an", "mamma", 4}, {"akn", "ank", 1}, {"aaa", "ann", 1}, {"k", "l", 0}, {"kl", "kk", 1}, {"a", "z", 0}, {"z", "a", 0},
		{"can", "makm", 2}, {"acn", "ammkmm", 3}, {"ancck", "manmmlm", 5},
		// An allocated block with more instructions: the first of them, not a move before it.
		{"", "a", 0}, {"", "mma", 2}, {"c", "ma", 1}, {"a", "aa", 1}, {"a", "ammna", 3}, {"acc", "amz", 2},
		// An allocated block that ends earlier.
		{"a", "", 0}, {"a", "m", 1}, {"ca", "mm", 2}, {"aa", "a", 1}, {"aan", "amm", 3}, {"z", "", 0}, {"acza", "amm", 3},
		// Instructions that do not correspond before an end that is too early.
		{"ann", "k", 0}, {"aa", "nna", 0}, {"ank", "mmk", 2},
		// OpCopy in the allocated block and OpMove in the source block are no copies and moves, and do not correspond to anything.
		{"c", "c", 0}, {"", "mc", 1}, {"a", "ca", 0}, {"ca", "ac", 1}, {"m", "", 0}, {"m", "m", 1}, {"m", "ma", 1}, {"ma", "a", 0}, {"am", "amm", 3}, {"m", "c", 0}, {"c", "mmc", 2}, {"z", "c", 0}, {"m", "z", 0},
	} {
		rows, at, err := Code(source(x.code), allocated(x.mach))
		if rows != nil || at != x.at || err != 20 {
			t.Errorf("%q and %q: %v, %d, %d, want the error at %d", x.code, x.mach, rows, at, err, x.at)
		}
	}
}

// P13.2: all short blocks.
func TestShortBlocks(t *testing.T) {
	var sources [][]api.Instr
	var machines [][]api.Mach
	blocks("cman", 5, func(text string) {
		sources = append(sources, source(text))
		machines = append(machines, allocated(text))
	})
	for _, code := range sources {
		for _, mach := range machines {
			checkCode(t, code, mach)
		}
	}
}

// P13.2: all shorter blocks with more kinds of instructions.
func TestMoreKinds(t *testing.T) {
	blocks("cmaklz", 3, func(a string) {
		blocks("cmaklz", 3, func(b string) {
			checkCode(t, source(a), allocated(b))
		})
	})
}

// scattered returns l with new elements before some of its own ones and behind them.
func scattered[T any](s *testkit.Numbers, l []T, element func() T) []T {
	rate := 1 + s.Below(4)
	var out []T
	for k := range len(l) + 1 {
		for s.Below(rate) > 0 {
			out = append(out, element())
		}
		if k < len(l) {
			out = append(out, l[k])
		}
	}
	return out
}

// P13.2 and P13.3: longer blocks of valid instructions that have an alignment, with copies and moves anywhere, and damaged ones.
func TestLongBlocks(t *testing.T) {
	s := testkit.Numbers(1)
	for range 2000 {
		var code []api.Instr
		var mach []api.Mach
		for range s.Below(40) {
			m := s.Mach(5, 5)
			if m.Op == 18 {
				continue
			}
			i := s.Instr(9)
			i.Op, i.Imm = m.Op, m.Imm
			code, mach = append(code, i), append(mach, m)
		}
		code = scattered(&s, code, func() api.Instr { return api.Instr{Op: 2, D: s.Below(9), A: s.Below(9)} })
		mach = scattered(&s, mach, func() api.Mach { return api.Mach{Op: 18, Dst: api.Loc(s.Below(9)), Src: 2} })
		if _, at, err := Code(code, mach); at != len(mach) || err != api.OK {
			t.Errorf("Code(%v, %v): %d, %d", code, mach, at, err)
		}
		checkCode(t, code, mach)
		checkDamaged(t, &s, code, mach)
	}
}

// checkDamaged compares Code with the model for blocks from which an instruction is removed, or in which one is changed.
func checkDamaged(t *testing.T, s *testkit.Numbers, code []api.Instr, mach []api.Mach) {
	t.Helper()
	if len(code) == 0 || len(mach) == 0 {
		return
	}
	k, n := s.Below(len(code)), s.Below(len(mach))
	checkCode(t, slices.Delete(slices.Clone(code), k, k+1), mach)
	checkCode(t, code, slices.Delete(slices.Clone(mach), n, n+1))
	checkCode(t, code[:k], mach)
	checkCode(t, code, mach[:n])
	otherCode, otherMach := slices.Clone(code), slices.Clone(mach)
	otherCode[k].Op = s.Below(20)
	otherMach[n].Imm ^= 1 << s.Below(64)
	checkCode(t, otherCode, mach)
	checkCode(t, code, otherMach)
	checkCode(t, otherCode, otherMach)
}

// P13.3: copies and moves, wherever they are and whatever is in them, do not matter to whether there is an alignment.
func TestCopiesAndMovesDoNotMatter(t *testing.T) {
	blocks("ank", 3, func(a string) {
		blocks("ank", 3, func(b string) {
			for k := range len(a) + 1 {
				for n := range len(b) + 1 {
					_, at, err := Code(source(a[:k]+"cc"+a[k:]), allocated(b[:n]+"m"+b[n:]))
					if (err == api.OK) != (a == b) {
						t.Errorf("%q with copies at %d and %q with a move at %d: %d, %d", a, k, b, n, at, err)
					}
				}
			}
		})
	})
	copies := []api.Instr{{Op: 2, D: math.MinInt, A: math.MaxInt, B: -1, Imm: 5}, {Op: 2}}
	moves := []api.Mach{{Op: 18, D: 1, A: math.MinInt, B: 3, Imm: 4, Dst: math.MinInt, Src: math.MaxInt}, {Op: 18}}
	if rows, at, err := Code(copies, moves); !slices.Equal(rows, []Row{{0, 2, 0, 2, -1, -1}}) || at != 2 || err != api.OK {
		t.Errorf("copies and moves with extreme fields: %v, %d, %d", rows, at, err)
	}
}

// P13.2: blocks with as many instructions as functions may have, and long ranges.
func TestLargeBlocks(t *testing.T) {
	const n = 1 << 20
	of := func(op int) ([]api.Instr, []api.Mach) {
		code, mach := make([]api.Instr, n), make([]api.Mach, n)
		for k := range n {
			code[k].Op, mach[k].Op = op, op
		}
		return code, mach
	}
	adds, machineAdds := of(5)
	copies, _ := of(2)
	_, moves := of(18)
	for k, x := range []struct {
		code        []api.Instr
		mach        []api.Mach
		rows, at    int
		first, last Row
	}{
		{adds, machineAdds, n + 1, n, Row{0, 0, 0, 0, 0, 0}, Row{n, n, n, n, -1, -1}},
		{copies, moves, 1, n, Row{0, n, 0, n, -1, -1}, Row{0, n, 0, n, -1, -1}},
		{slices.Concat(copies, adds[:1]), slices.Concat(moves, machineAdds[:1]), 2, n + 1, Row{0, n, 0, n, n, n}, Row{n + 1, n + 1, n + 1, n + 1, -1, -1}},
	} {
		rows, at, err := Code(x.code, x.mach)
		if len(rows) != x.rows || at != x.at || err != api.OK || rows[0] != x.first || rows[len(rows)-1] != x.last {
			t.Errorf("case %d: %d rows, %d, %d", k, len(rows), at, err)
		}
	}
	if rows, at, err := Code(adds, machineAdds[:n-1]); rows != nil || at != n-1 || err != api.ErrAlign {
		t.Errorf("an early end: %d rows, %d, %d", len(rows), at, err)
	}
}

// P13.4: arguments and their unused capacity are not modified, and do not matter.
func TestMemory(t *testing.T) {
	blocks("cmak", 3, func(a string) {
		blocks("cmak", 3, func(b string) {
			code, mach := source(a), allocated(b)
			wholeCode, wholeMach := slices.Clone(code[:cap(code)]), slices.Clone(mach[:cap(mach)])
			rows, at, err := Code(code, mach)
			if !slices.Equal(code[:cap(code)], wholeCode) || !slices.Equal(mach[:cap(mach)], wholeMach) {
				t.Fatalf("Code changes %q or %q", a, b)
			}
			kept := slices.Clone(rows)
			clear(code[len(code):cap(code)])
			clear(mach[len(mach):cap(mach)])
			clear(rows[:cap(rows)])
			again, atAgain, errAgain := Code(code, mach)
			if !slices.Equal(again, kept) || atAgain != at || errAgain != err {
				t.Errorf("Code of %q and %q has another result the second time", a, b)
			}
		})
	})
}
