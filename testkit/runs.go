package testkit

import (
	"slices"

	"regcert/api"
)

// SameRun reports whether a and b are the same run. Nil and empty slices are the same.
func SameRun(a, b api.Run) bool {
	return a.State == b.State && a.Block == b.Block && a.At == b.At && a.Value == b.Value && a.Steps == b.Steps &&
		slices.Equal(a.Regs, b.Regs) && slices.Equal(a.Slots, b.Slots) && slices.Equal(a.Trace, b.Trace)
}

// CloneRun returns a copy of r that shares no memory with it.
func CloneRun(r api.Run) api.Run {
	r.Regs, r.Slots, r.Trace = slices.Clone(r.Regs), slices.Clone(r.Slots), slices.Clone(r.Trace)
	return r
}

// SpoilRun changes the values in the slices of r and in their unused capacity, which shows in whatever shares its memory.
func SpoilRun(r api.Run) {
	for _, values := range [][]int64{r.Regs, r.Slots, r.Trace} {
		SpoilValues(values)
	}
}

// SpoilValues changes all values of l and of its unused capacity.
func SpoilValues(l []int64) {
	l = l[:cap(l)]
	for k := range l {
		l[k] = ^l[k]
	}
}
