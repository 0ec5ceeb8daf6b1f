package opcode

import (
	"math"
	"strings"
	"testing"

	"regcert/api"
	"regcert/testkit"
)

// row is a line of the chapter's table, for a single opcode; uses lists the fields of the shape.
type row struct {
	op              int
	name, uses      string
	source, machine bool
}

// table is the chapter's table, with the numbers of the opcodes and not their constants, so that these are compared too.
var table = []row{
	{1, "const", "D Imm", true, true},
	{2, "copy", "D A", true, false},
	{3, "neg", "D A", true, true},
	{4, "not", "D A", true, true},
	{5, "add", "D A B", true, true},
	{6, "sub", "D A B", true, true},
	{7, "mul", "D A B", true, true},
	{8, "div", "D A B", true, true},
	{9, "rem", "D A B", true, true},
	{10, "and", "D A B", true, true},
	{11, "or", "D A B", true, true},
	{12, "xor", "D A B", true, true},
	{13, "shl", "D A B", true, true},
	{14, "shr", "D A B", true, true},
	{15, "eq", "D A B", true, true},
	{16, "less", "D A B", true, true},
	{17, "emit", "A", true, true},
	{18, "move", "", false, true},
}

// fields lists the fields of s as rows do.
func fields(s Shape) string {
	var l []string
	for _, x := range []struct {
		used bool
		name string
	}{{s.D, "D"}, {s.A, "A"}, {s.B, "B"}, {s.Imm, "Imm"}} {
		if x.used {
			l = append(l, x.name)
		}
	}
	return strings.Join(l, " ")
}

// noOpcodes returns the integers beside the opcodes, those whose low bits are an opcode, and others.
func noOpcodes() []int {
	l := []int{0, 19, 20, 31, 32, 33, 63, 64, 127, 128, 255, 256, math.MinInt, math.MinInt + 1, math.MaxInt - 1, math.MaxInt}
	for op := range 20 {
		l = append(l, -1-op)
		for _, bits := range []int{5, 6, 8, 16, 32, 62} {
			l = append(l, op+1<<bits, op-1<<bits)
		}
		l = append(l, op+math.MinInt)
	}
	s := testkit.Numbers(6)
	for range 1000 {
		if n := int(s.Wide()); n < 1 || n > 18 {
			l = append(l, n)
		}
	}
	return l
}

// P5.1
func TestShapes(t *testing.T) {
	for _, x := range table {
		s, ok := Of(x.op)
		if fields(s) != x.uses || !ok {
			t.Errorf("Of(%d) = %v, %v, want the fields %q", x.op, s, ok, x.uses)
		}
		want := strings.Count(x.uses, "A") + strings.Count(x.uses, "B")
		if n := Operands(x.op); n != want {
			t.Errorf("Operands(%d) = %d, want %d", x.op, n, want)
		}
	}
}

// P5.1
func TestShapesOfNoOpcodes(t *testing.T) {
	for _, op := range noOpcodes() {
		if s, ok := Of(op); ok || s != (Shape{}) {
			t.Errorf("Of(%d) = %v, %v", op, s, ok)
		}
		if n := Operands(op); n != 0 {
			t.Errorf("Operands(%d) = %d", op, n)
		}
	}
}

// P5.2
func TestNames(t *testing.T) {
	for _, x := range table {
		if name := Name(x.op); name != x.name {
			t.Errorf("Name(%d) = %q, want %q", x.op, name, x.name)
		}
		// A copy, because names are compared by their bytes and not by where these are.
		if op := Find(strings.Clone(x.name)); op != x.op {
			t.Errorf("Find(%q) = %d, want %d", x.name, op, x.op)
		}
	}
	for _, op := range noOpcodes() {
		if name := Name(op); name != "" {
			t.Errorf("Name(%d) = %q", op, name)
		}
	}
}

// checkFind compares Find(name) with the table.
func checkFind(t *testing.T, name string) {
	t.Helper()
	want := 0
	for _, x := range table {
		if x.name == name {
			want = x.op
		}
	}
	if op := Find(name); op != want {
		t.Errorf("Find(%.40q) = %d, want %d", name, op, want)
	}
}

// P5.2
func TestFindNoNames(t *testing.T) {
	for _, name := range []string{
		"", " ", "\x00", "0", "1", "7", "18", "-1",
		"jump", "branch", "return", "func", "block", "end", "nop", "mov", "load", "store", "neq", "ne", "lt", "le", "gt", "mod", "sar", "cons", "constant",
		"Add", "ADD", "aDd", "Const", "OpAdd", "OpMove", "addmul", "add mul", "add,mul", "add 1 2 3",
		"\u00e9q", "e\uff51", "\uff45\uff51", "\ufeffadd", "\u0430dd", "le\u017fs", "\xff", "add\xff", "\xe1dd",
		strings.Repeat("add", 1<<18), strings.Repeat("\x00", 1<<20), "move" + strings.Repeat(" ", 1<<20),
	} {
		if op := Find(name); op != 0 {
			t.Errorf("Find(%.40q) = %d", name, op)
		}
	}
}

// P5.2: every byte in every place of a name, instead of another one and as an additional one; and every part of a name.
func TestFindDamaged(t *testing.T) {
	for _, x := range table {
		for at := range len(x.name) + 1 {
			for b := range 256 {
				damaged := x.name[:at] + string([]byte{byte(b)})
				checkFind(t, damaged+x.name[at:])
				checkFind(t, damaged+x.name[min(at+1, len(x.name)):])
			}
			for end := at; end <= len(x.name); end++ {
				checkFind(t, x.name[at:end])
			}
		}
	}
}

// P5.2: of all words of up to 4 small letters, those of the table are found; the only longer name is const.
func TestFindWords(t *testing.T) {
	level := []string{""}
	found := 0
	for range 4 {
		var next []string
		for _, word := range level {
			for c := 'a'; c <= 'z'; c++ {
				next = append(next, word+string(c))
			}
		}
		for _, word := range next {
			checkFind(t, word)
			if Find(word) != 0 {
				found++
			}
		}
		level = next
	}
	if found != len(table)-1 {
		t.Errorf("%d words found, want %d", found, len(table)-1)
	}
}

// P5.3
func TestSourceAndMachine(t *testing.T) {
	for _, x := range table {
		if Source(x.op) != x.source || Machine(x.op) != x.machine {
			t.Errorf("opcode %d: source %v, machine %v", x.op, Source(x.op), Machine(x.op))
		}
	}
	for _, op := range noOpcodes() {
		if Source(op) || Machine(op) {
			t.Errorf("%d, which is not an opcode: source %v, machine %v", op, Source(op), Machine(op))
		}
	}
}

// P5.4
func TestNamesDiffer(t *testing.T) {
	seen := map[string]int{}
	for op := api.OpConst; op <= api.OpMove; op++ {
		name := Name(op)
		if other, ok := seen[name]; ok || name == "" {
			t.Errorf("the opcode %d has the name %q, as %d has", op, name, other)
		}
		seen[name] = op
		if found := Find(name); found != op {
			t.Errorf("Find(Name(%d)) = %d", op, found)
		}
	}
}
