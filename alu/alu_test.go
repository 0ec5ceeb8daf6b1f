package alu

import (
	"math"
	"math/big"
	"testing"

	"regcert/api"
	"regcert/opcode"
	"regcert/testkit"
)

const (
	least = math.MinInt64
	most  = math.MaxInt64
)

// wrap returns the signed 64-bit integer that is equal to x modulo 2^64.
func wrap(x *big.Int) int64 {
	low := new(big.Int).And(x, new(big.Int).SetUint64(math.MaxUint64))
	return int64(low.Uint64())
}

// shiftModel shifts a by multiplying it by a power of 2, or by dividing it by one and rounding down.
func shiftModel(a, b *big.Int, left bool) *big.Int {
	positions := new(big.Int).Mod(b, big.NewInt(64)) // Mod's remainder is never negative
	power := new(big.Int).Exp(big.NewInt(2), positions, nil)
	if left {
		return new(big.Int).Mul(a, power)
	}
	return new(big.Int).Div(a, power) // rounds down for a positive divisor
}

// bitsModel computes a bitwise operation bit by bit.
func bitsModel(op int, a, b int64) int64 {
	var v uint64
	for k := range 64 {
		x, y := uint64(a)>>k&1, uint64(b)>>k&1
		set := false
		switch op {
		case api.OpAnd:
			set = x+y == 2
		case api.OpOr:
			set = x+y > 0
		case api.OpXor:
			set = x+y == 1
		case api.OpNot:
			set = x == 0
		}
		if set {
			v += 1 << k
		}
	}
	return int64(v)
}

// model is Eval by the chapter's table, with big integers.
func model(op int, a, b, imm int64) (int64, bool) {
	x, y, z := big.NewInt(a), big.NewInt(b), new(big.Int)
	switch op {
	case api.OpConst:
		return imm, true
	case api.OpCopy:
		return a, true
	case api.OpNeg:
		return wrap(z.Neg(x)), true
	case api.OpAdd:
		return wrap(z.Add(x, y)), true
	case api.OpSub:
		return wrap(z.Sub(x, y)), true
	case api.OpMul:
		return wrap(z.Mul(x, y)), true
	case api.OpDiv, api.OpRem:
		if b == 0 {
			return 0, false
		}
		z.Quo(x, y) // truncated toward 0
		if op == api.OpRem {
			z.Sub(x, z.Mul(y, z))
		}
		return wrap(z), true
	case api.OpNot, api.OpAnd, api.OpOr, api.OpXor:
		return bitsModel(op, a, b), true
	case api.OpShl, api.OpShr:
		return wrap(shiftModel(x, y, op == api.OpShl)), true
	case api.OpEq, api.OpLess:
		order := x.Cmp(y)
		if op == api.OpEq && order == 0 || op == api.OpLess && order < 0 {
			return 1, true
		}
		return 0, true
	}
	return 0, false
}

// values returns the integers at which operations have edges: those around 0, around powers of 2 and around multiples of 64.
func values() []int64 {
	l := []int64{least, least + 1, most, most - 1}
	for v := int64(-9); v <= 9; v++ {
		l = append(l, v)
	}
	for _, k := range []int{4, 5, 6, 7, 8, 16, 31, 32, 33, 62, 63} {
		p := int64(1) << k
		l = append(l, p-1, p, p+1, -p-1, -p, -p+1)
	}
	return append(l, 0x5555555555555555, -0x5555555555555556, 0x0123456789abcdef, 1000000007, -998244353, 192, -192, 191, -193)
}

// noOpcodes returns integers that have no result: OpEmit and OpMove, those beside the opcodes, those whose low bits are an opcode, and others.
func noOpcodes() []int {
	l := []int{api.OpEmit, api.OpMove, 0, 19, 20, 31, 32, 33, 64, 128, 255, 256, math.MinInt, math.MaxInt}
	for op := range 20 {
		l = append(l, -1-op, op+math.MinInt)
		for _, bits := range []int{5, 6, 8, 16, 32, 62} {
			l = append(l, op+1<<bits, op-1<<bits)
		}
	}
	s := testkit.Numbers(8)
	for range 1000 {
		if n := int(s.Wide()); n < 1 || n > 16 {
			l = append(l, n)
		}
	}
	return l
}

// checkEval compares Eval with the model.
func checkEval(t *testing.T, op int, a, b, imm int64) {
	t.Helper()
	v, ok := Eval(op, a, b, imm)
	if want, has := model(op, a, b, imm); v != want || ok != has {
		t.Errorf("Eval(%d, %d, %d, %d) = %d, %v, want %d, %v", op, a, b, imm, v, ok, want, has)
	}
}

// P6.1: the rows of the chapter's table, its examples, and the edge cases that it names. The opcodes are written as numbers, so that their constants are compared too.
func TestResults(t *testing.T) {
	for _, x := range []struct {
		op         int
		a, b, want int64
	}{
		{1, 3, 4, 77}, {2, 3, 4, 3}, {3, 3, 4, -3}, {4, 3, 4, -4},
		{5, 3, 4, 7}, {6, 3, 4, -1}, {7, 3, 4, 12}, {8, 13, 4, 3}, {9, 13, 4, 1},
		{10, 5, 6, 4}, {11, 5, 6, 7}, {12, 5, 6, 3}, {13, 3, 4, 48}, {14, 50, 4, 3},
		{15, 3, 4, 0}, {15, 4, 4, 1}, {15, 4, 3, 0}, {16, 3, 4, 1}, {16, 4, 4, 0}, {16, 4, 3, 0},
		// The examples.
		{8, -7, 2, -3}, {9, -7, 2, -1}, {13, 1, 65, 2}, {14, -8, 1, -4},
		// Signs of quotients and remainders.
		{8, 7, 2, 3}, {8, 7, -2, -3}, {8, -7, -2, 3}, {9, 7, 2, 1}, {9, 7, -2, 1}, {9, -7, -2, -1},
		{8, 1, 2, 0}, {8, -1, 2, 0}, {9, -1, 2, -1}, {8, 0, 5, 0}, {9, 0, -5, 0},
		// Wraparound.
		{3, least, 0, least}, {5, most, 1, least}, {5, least, -1, most}, {6, least, 1, most}, {6, most, -1, least}, {6, 0, least, least},
		{7, 1 << 32, 1 << 32, 0}, {7, most, 2, -2}, {7, least, -1, least}, {7, 1 << 62, 2, least}, {7, most, most, 1},
		{8, least, -1, least}, {9, least, -1, 0}, {8, least, 1, least}, {8, most, -1, -most}, {8, least, least, 1}, {8, most, least, 0}, {9, most, least, most},
		// Positions of shifts.
		{13, 1, 0, 1}, {13, 1, 63, least}, {13, 1, 64, 1}, {13, 1, -1, least}, {13, 1, -64, 1}, {13, 1, -63, 2}, {13, 3, 63, least}, {13, 1, least, 1}, {13, 1, most, least}, {13, 5, 256, 5},
		{14, 64, 0, 64}, {14, least, 63, -1}, {14, most, 62, 1}, {14, most, 63, 0}, {14, -1, 64, -1}, {14, -1, 5, -1}, {14, least, -1, -1}, {14, -8, -63, -4}, {14, -8, least, -8}, {14, 8, 65, 4}, {14, -7, 1, -4},
		// Comparisons of integers whose difference wraps around.
		{16, least, most, 1}, {16, most, least, 0}, {16, -1, 0, 1}, {16, 0, -1, 0}, {15, least, most, 0}, {15, least, least, 1}, {15, 0, 1 << 32, 0},
	} {
		if v, ok := Eval(x.op, x.a, x.b, 77); v != x.want || !ok {
			t.Errorf("Eval(%d, %d, %d, 77) = %d, %v, want %d, true", x.op, x.a, x.b, v, ok, x.want)
		}
	}
}

// P6.1: all operations with all pairs of the edge values, and with others.
func TestResultsAsModel(t *testing.T) {
	s := testkit.Numbers(6)
	for op := -3; op < 22; op++ {
		for _, a := range values() {
			for _, b := range values() {
				checkEval(t, op, a, b, a^b)
			}
			checkEval(t, op, 1, 2, a)
		}
		for range 3000 {
			a, b, imm := int64(s.Wide()), int64(s.Wide()), int64(s.Wide())
			if s.Below(2) == 0 {
				a = -a
			}
			if s.Below(2) == 0 {
				b = -b
			}
			checkEval(t, op, a, b, imm)
			checkEval(t, op, a, a, imm)
		}
	}
}

// P6.1: divisions are stuck if b is 0, whatever the other arguments are.
func TestDivisionByZero(t *testing.T) {
	for _, op := range []int{api.OpDiv, api.OpRem} {
		for _, a := range values() {
			for _, imm := range values() {
				if v, ok := Eval(op, a, 0, imm); v != 0 || ok {
					t.Errorf("Eval(%d, %d, 0, %d) = %d, %v", op, a, imm, v, ok)
				}
			}
		}
	}
}

// P6.1, P6.2, P1: integers that are no opcodes, and the opcodes without a result.
func TestNoOperations(t *testing.T) {
	for _, op := range noOpcodes() {
		for _, a := range []int64{0, 1, -1, 5, least, most} {
			for _, b := range []int64{0, 1, -1, least, most} {
				if v, ok := Eval(op, a, b, 9); v != 0 || ok {
					t.Errorf("Eval(%d, %d, %d, 9) = %d, %v", op, a, b, v, ok)
				}
			}
		}
		if Pure(op) || Traps(op) {
			t.Errorf("opcode %d: Pure %v, Traps %v", op, Pure(op), Traps(op))
		}
	}
}

// P6.2
func TestPureAndTraps(t *testing.T) {
	for op := 1; op <= 16; op++ {
		traps := op == api.OpDiv || op == api.OpRem
		if !Pure(op) || Traps(op) != traps {
			t.Errorf("opcode %d: Pure %v, Traps %v, want true, %v", op, Pure(op), Traps(op), traps)
		}
	}
}

// P6.2: by the results for many operands.
func TestPureAndTrapsByResults(t *testing.T) {
	for op := -3; op < 40; op++ {
		has, stuck := false, false
		for _, a := range values() {
			for _, b := range values() {
				_, ok := Eval(op, a, b, a)
				has = has || ok
				stuck = stuck || !ok
			}
		}
		if Pure(op) != has || Traps(op) != (has && stuck) {
			t.Errorf("opcode %d: Pure %v, Traps %v, results for some operands %v, stuck for some %v", op, Pure(op), Traps(op), has, stuck)
		}
	}
}

// used returns v if the shape includes the field, and another value otherwise.
func used(included bool, v int64) int64 {
	if included {
		return v
	}
	return ^v
}

// P6.3
func TestUnusedOperands(t *testing.T) {
	for op := range 20 {
		shape, _ := opcode.Of(op)
		for _, a := range values() {
			for _, b := range values() {
				v, ok := Eval(op, a, b, a+b)
				a2, b2, imm2 := used(shape.A, a), used(shape.B, b), used(shape.Imm, a+b)
				if v2, ok2 := Eval(op, a2, b2, imm2); v2 != v || ok2 != ok {
					t.Errorf("Eval(%d, %d, %d, %d) = %d, %v, but %d, %v for %d, %d, %d", op, a, b, a+b, v, ok, v2, ok2, a2, b2, imm2)
				}
			}
		}
	}
}
