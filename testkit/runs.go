package testkit

import (
	"slices"

	"regcert/api"
)

// SameRun reports whether a and b are the same run. Nil and empty slices are the same.
func SameRun(a, b api.Run) bool {
	return a.State == b.State && a.Block == b.Block && a.At == b.At && a.Value == b.Value && a.Steps == b.Steps &&
		slices.Equal(a.Regs, b.Regs) && slices.Equal(a.Slots, b.Slots) && slices.Equal(a.Trace, b.Trace)
}

// CloneRun returns a copy of r that shares no memory with it.
func CloneRun(r api.Run) api.Run {
	r.Regs, r.Slots, r.Trace = slices.Clone(r.Regs), slices.Clone(r.Slots), slices.Clone(r.Trace)
	return r
}

// Values returns n values, half of them small, with unused capacity.
func (s *Numbers) Values(n int) []int64 {
	l := make([]int64, n, n+6)
	for k := range l {
		if l[k] = int64(s.Below(5)) - 2; s.Below(2) == 0 {
			l[k] = int64(s.Wide())
		}
	}
	return l
}

// WholeValues returns a copy of l with its unused capacity.
func WholeValues(l []int64) []int64 {
	return slices.Clone(l[:cap(l)])
}

// SpoilRun changes the values in the slices of r and in their unused capacity, which shows in whatever shares its memory.
func SpoilRun(r api.Run) {
	for _, values := range [][]int64{r.Regs, r.Slots, r.Trace} {
		SpoilValues(values)
	}
}

// SpoilValues changes all values of l and of its unused capacity.
func SpoilValues(l []int64) {
	l = l[:cap(l)]
	for k := range l {
		l[k] = ^l[k]
	}
}
