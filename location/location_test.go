package location

import (
	"math"
	"math/big"
	"regexp"
	"slices"
	"strings"
	"testing"

	"regcert/api"
	"regcert/testkit"
)

// indices are the number of indices for which Reg and Slot are specified.
const indices = 1 << 40

// someIndices returns all small indices, those beside the powers of 2 and of 10, and others.
func someIndices() []int {
	var l []int
	for n := range 1100 {
		l = append(l, n)
	}
	for _, base := range []int{2, 10} {
		for p := 1; p <= indices; p *= base {
			l = append(l, p-1, p, p+1)
		}
	}
	s := testkit.Numbers(4)
	for range 1000 {
		l = append(l, int(s.Wide()%indices))
	}
	return slices.DeleteFunc(l, func(n int) bool { return n >= indices })
}

var textForm = regexp.MustCompile(`\A[rs](0|[1-9][0-9]*)\z`)

// parseModel is Parse by the wording of the definitions.
func parseModel(s string) (api.Loc, bool) {
	if !textForm.MatchString(s) {
		return 0, false
	}
	n, _ := new(big.Int).SetString(s[1:], 10)
	if n.Cmp(big.NewInt(indices)) >= 0 {
		return 0, false
	}
	l := 2 * n.Int64()
	if s[0] == 's' {
		l++
	}
	return api.Loc(l), true
}

// checkParse compares a call of Parse with what it should return.
func checkParse(t *testing.T, s string, want api.Loc, wantOK bool) {
	t.Helper()
	if l, ok := Parse(s); l != want || ok != wantOK {
		t.Errorf("Parse(%.40q) = %d, %v, want %d, %v", s, l, ok, want, wantOK)
	}
}

// P4.1
func TestLocations(t *testing.T) {
	for _, x := range []struct {
		l    api.Loc
		slot bool
		n    int
	}{
		{0, false, 0}, {1, true, 0}, {2, false, 1}, {3, true, 1}, {4, false, 2}, {5, true, 2}, {254, false, 127}, {255, true, 127},
		{1 << 32, false, 1 << 31}, {1<<32 + 1, true, 1 << 31},
		{1<<41 - 2, false, 1<<40 - 1}, {1<<41 - 1, true, 1<<40 - 1},
	} {
		made := Reg(x.n)
		if x.slot {
			made = Slot(x.n)
		}
		if made != x.l || IsSlot(x.l) != x.slot || Index(x.l) != x.n {
			t.Errorf("location %d: made %d, slot %v, index %d", x.l, made, IsSlot(x.l), Index(x.l))
		}
	}
	for _, n := range someIndices() {
		r, s := Reg(n), Slot(n)
		if r != api.Loc(n+n) || s != api.Loc(n+n+1) || IsSlot(r) || !IsSlot(s) || Index(r) != n || Index(s) != n {
			t.Errorf("index %d: register %d with index %d, slot %d with index %d", n, r, Index(r), s, Index(s))
		}
	}
}

// P4.2
func TestInRange(t *testing.T) {
	for _, x := range []struct {
		l           api.Loc
		regs, slots int
		want        bool
	}{
		{0, 0, 0, false}, {0, 1, 0, true}, {0, 0, 9, false},
		{1, 0, 0, false}, {1, 0, 1, true}, {1, 9, 0, false},
		{8, 4, 9, false}, {8, 5, 0, true}, {9, 9, 4, false}, {9, 0, 5, true},
		{-1, 9, 9, false}, {-2, 9, 9, false}, {-3, 9, 9, false}, {math.MinInt, 9, 9, false}, {math.MinInt + 1, 9, 9, false},
		{0, -1, 9, false}, {1, 9, -1, false}, {0, math.MinInt, 9, false}, {1, 9, math.MinInt, false},
		{-1, -1, -1, false}, {-2, -9, -9, false}, {-9, -4, -4, false},
		{math.MaxInt, 0, math.MaxInt / 2, false}, {math.MaxInt, 0, math.MaxInt/2 + 1, true}, {math.MaxInt, math.MaxInt, 0, false},
		{math.MaxInt - 1, math.MaxInt / 2, 0, false}, {math.MaxInt - 1, math.MaxInt/2 + 1, 0, true}, {math.MaxInt - 1, 0, math.MaxInt, false},
	} {
		if got := InRange(x.l, x.regs, x.slots); got != x.want {
			t.Errorf("InRange(%d, %d, %d) = %v", x.l, x.regs, x.slots, got)
		}
	}
}

// P4.2: a machine has the locations that are made of its indices, and no others.
func TestInRangeOfSmallMachines(t *testing.T) {
	for regs := -2; regs < 6; regs++ {
		for slots := -2; slots < 6; slots++ {
			has := map[api.Loc]bool{}
			for n := 0; n < regs; n++ {
				has[Reg(n)] = true
			}
			for n := 0; n < slots; n++ {
				has[Slot(n)] = true
			}
			for l := api.Loc(-14); l < 14; l++ {
				if got := InRange(l, regs, slots); got != has[l] {
					t.Errorf("InRange(%d, %d, %d) = %v", l, regs, slots, got)
				}
			}
		}
	}
}

// P4.3
func TestText(t *testing.T) {
	for _, x := range []struct {
		l    api.Loc
		text string
	}{
		{0, "r0"}, {1, "s0"}, {2, "r1"}, {3, "s1"}, {4, "r2"}, {5, "s2"}, {18, "r9"}, {19, "s9"}, {20, "r10"}, {21, "s10"}, {200, "r100"}, {201, "s100"},
		{1<<41 - 2, "r1099511627775"}, {1<<41 - 1, "s1099511627775"},
	} {
		if got := Text(x.l); got != x.text {
			t.Errorf("Text(%d) = %q, want %q", x.l, got, x.text)
		}
		checkParse(t, x.text, x.l, true)
	}
}

// P4.3
func TestParseInvalid(t *testing.T) {
	for _, s := range []string{
		"", "r", "s", "0", "1", "12", "x1", "R1", "S1", "t1", "q1", "rr1", "rs1", "sr1", "1r", "1s",
		"r02", "s02", "r00", "s00", "r000", "r01", "s0000000000000000000000000000000001",
		"r+1", "s+1", "r-1", "s-1", "r-0", "s-0",
		" r1", "r 1", "r1 ", "r1\n", "\tr1", "r1\x00", "\x00r1", "r\x001", "r1_0", "r0x1", "r1e3", "r1.0", "r1,", "r1a", "ra", "r/", "r:", "r1/", "r1:", "ra1",
		"\u00e91", "r\u00e9", "r1\u00e9", "r\u00e91", "r\u0663", "r\uff11", "\uff521", "r\u0130", "r\u0131", "r\u01301", "\u01721", "\u01731", "\ufeffr1",
		"\xff1", "r\xff", "r1\xff", "r\xb1", "\xf21", "\xc3",
		"r1099511627776", "s1099511627776", "r1099511627780", "r2000000000000", "r9999999999999", "s10995116277750", "r10000000000000",
		"r4294967296000000", "r9223372036854775807", "s9223372036854775807", "r9223372036854775808", "r18446744073709551616", "s18446744073709551617", "r36893488147419103232", "s99999999999999999999",
		"r340282366920938463463374607431768211456", "r1" + strings.Repeat("0", 64), "s" + strings.Repeat("9", 1<<20), "r" + strings.Repeat("0", 1<<20), strings.Repeat("r", 1<<20),
	} {
		checkParse(t, s, 0, false)
	}
}

// P4.3: of all short strings of telling bytes, those that the definition names are texts.
func TestParseShort(t *testing.T) {
	const letters = "rsx0129-\xc3"
	level := []string{""}
	texts := 0
	for range 6 {
		var next []string
		for _, s := range level {
			want, ok := parseModel(s)
			checkParse(t, s, want, ok)
			if ok {
				texts++
			}
			for k := range len(letters) {
				next = append(next, s+letters[k:k+1])
			}
		}
		level = next
	}
	// For each kind, and each number of digits up to 4: any of the 4, the first of which is not 0 if others follow.
	if want := 2 * (4 + 3*4 + 3*4*4 + 3*4*4*4); texts != want {
		t.Errorf("%d texts, want %d", texts, want)
	}
}

// P4.3: every byte in every place of a text, instead of another one and as an additional one.
func TestParseDamaged(t *testing.T) {
	for _, text := range []string{"r0", "s7", "r10", "s405", "r1099511627775"} {
		for at := range len(text) + 1 {
			for b := range 256 {
				damaged := text[:at] + string([]byte{byte(b)})
				for _, s := range []string{damaged + text[at:], damaged + text[min(at+1, len(text)):]} {
					want, ok := parseModel(s)
					checkParse(t, s, want, ok)
				}
			}
		}
	}
}

// P4.3: the digits of long numbers, whose values may not fit into any integer.
func TestParseLong(t *testing.T) {
	s := testkit.Numbers(5)
	accepted := 0
	for range 20000 {
		b := []byte{"rs"[s.Below(2)]}
		for range 10 + s.Below(14) {
			b = append(b, byte('0'+s.Below(10)))
		}
		want, ok := parseModel(string(b))
		checkParse(t, string(b), want, ok)
		if ok {
			accepted++
		}
	}
	if accepted == 0 {
		t.Error("no text is accepted")
	}
}

// P4.4
func TestTextsDiffer(t *testing.T) {
	seen := map[string]api.Loc{}
	for _, n := range someIndices() {
		for _, l := range []api.Loc{Reg(n), Slot(n)} {
			text := Text(l)
			if other, ok := seen[text]; ok && other != l {
				t.Errorf("the locations %d and %d have the text %q", l, other, text)
			}
			seen[text] = l
			if want, ok := parseModel(text); !ok || want != l {
				t.Errorf("Text(%d) = %q, which is not its text", l, text)
			}
			checkParse(t, text, l, true)
		}
	}
}

// P1: no integer makes the functions panic, although most results are not specified.
func TestUnspecifiedArguments(t *testing.T) {
	for _, n := range []int{math.MinInt, math.MinInt + 1, -2, -1, indices, 2 * indices, math.MaxInt - 1, math.MaxInt} {
		Reg(n)
		Slot(n)
		IsSlot(api.Loc(n))
		Index(api.Loc(n))
		Text(api.Loc(n))
	}
}
