package liveness

import (
	"slices"
	"strings"

	"regcert/api"
	"regcert/testkit"
)

// operands returns the registers that i reads, and those that it writes, by the table of layer 5.
func operands(i api.Instr) (reads, writes []int) {
	uses, _ := testkit.InstrUses(i.Op)
	for _, field := range strings.Fields(uses) {
		switch field {
		case "D":
			writes = append(writes, i.D)
		case "A":
			reads = append(reads, i.A)
		case "B":
			reads = append(reads, i.B)
		}
	}
	return reads, writes
}

// defines reports whether one of these instructions has v as D.
func defines(l []api.Instr, v int) bool {
	return slices.ContainsFunc(l, func(i api.Instr) bool {
		_, writes := operands(i)
		return slices.Contains(writes, v)
	})
}

// usesFirst reports whether b uses v before defining it, by the wording of the definition.
func usesFirst(b api.Block, v int) bool {
	for k, i := range b.Code {
		if reads, _ := operands(i); slices.Contains(reads, v) && !defines(b.Code[:k], v) {
			return true
		}
	}
	return slices.Contains(termReads(b.Term), v) && !defines(b.Code, v)
}

// termReads returns the registers that t reads.
func termReads(t api.Term) []int {
	if uses, _ := testkit.TermUses(t.Kind); strings.Contains(uses, "A") {
		return []int{t.A}
	}
	return nil
}

// next returns the successors of a block with the terminator t.
func next(t api.Term) []int {
	var l []int
	uses, _ := testkit.TermUses(t.Kind)
	for _, field := range strings.Fields(uses) {
		switch field {
		case "To":
			l = append(l, t.To)
		case "Else":
			l = append(l, t.Else)
		}
	}
	return l
}

// pathModel reports whether v is live at the entry of block k of f, by the wording of the definition, for paths of at most n blocks.
func pathModel(f api.Func, k, v, n int) bool {
	b := f.Blocks[k]
	if n > 0 && usesFirst(b, v) {
		return true
	}
	return n > 1 && !defines(b.Code, v) && slices.ContainsFunc(next(b.Term), func(to int) bool {
		return pathModel(f, to, v, n-1)
	})
}

// closureModel returns for each block of f whether v is live at its entry. It looks for paths of any length with the closure of the edges that leave blocks that do not define v.
func closureModel(f api.Func, v int) []bool {
	n := len(f.Blocks)
	reach := make([][]bool, n)
	for k, b := range f.Blocks {
		reach[k] = make([]bool, n)
		reach[k][k] = true
		for _, to := range next(b.Term) {
			reach[k][to] = reach[k][to] || !defines(b.Code, v)
		}
	}
	for via := range n {
		for from := range n {
			for to := range n {
				reach[from][to] = reach[from][to] || reach[from][via] && reach[via][to]
			}
		}
	}
	live := make([]bool, n)
	for k := range n {
		for end, b := range f.Blocks {
			live[k] = live[k] || reach[k][end] && usesFirst(b, v)
		}
	}
	return live
}

// which returns the registers from 0 to n - 1 for which is returns true, in ascending order.
func which(n int, is func(v int) bool) []int {
	var l []int
	for v := range n {
		if is(v) {
			l = append(l, v)
		}
	}
	return l
}

// outModel is what Out must return where In returns in.
func outModel(f api.Func, in [][]int) [][]int {
	var out [][]int
	for _, b := range f.Blocks {
		out = append(out, which(f.Regs, func(v int) bool {
			return slices.ContainsFunc(next(b.Term), func(to int) bool { return slices.Contains(in[to], v) })
		}))
	}
	return out
}
