package blockcheck

import (
	"strings"

	"regcert/align"
	"regcert/api"
	"regcert/testkit"
)

// An operation is an elementary operation of a check: Copy of register y to x, Move of location y to x, Define of register x in location y, or Has of register x and location y. An error of it is at the index at.
type operation struct {
	what  string
	x, y  int
	index int
}

// operationsOf returns the elementary operations of a check in their order, by the wording of the definition and of P14.2. The rows are those of layer 13.
func operationsOf(b api.Block, m api.MBlock, rows []align.Row) []operation {
	var all []operation
	add := func(what string, x, y, index int) {
		all = append(all, operation{what, x, y, index})
	}
	for _, row := range rows {
		for k := row.CopyFrom; k < row.CopyTo; k++ {
			add("Copy", b.Code[k].D, b.Code[k].A, row.MoveFrom)
		}
		for k := row.MoveFrom; k < row.MoveTo; k++ {
			add("Move", int(m.Code[k].Dst), int(m.Code[k].Src), k)
		}
		if row.Source == -1 {
			continue
		}
		i, on := b.Code[row.Source], m.Code[row.Mach]
		uses, _ := testkit.InstrUses(i.Op)
		if strings.Contains(uses, "A") {
			add("Has", i.A, 2*on.A, row.Mach)
		}
		if strings.Contains(uses, "B") {
			add("Has", i.B, 2*on.B, row.Mach)
		}
		if strings.Contains(uses, "D") {
			add("Define", i.D, 2*on.D, row.Mach)
		}
	}
	if b.Term.Kind != 1 {
		add("Has", b.Term.A, 2*m.Term.A, len(m.Code))
	}
	return all
}

// after returns the pairs after the operation, by the wording of the definitions of layer 12.
func (o operation) after(set map[api.Pair]bool) map[api.Pair]bool {
	next := map[api.Pair]bool{}
	same := o.what == "Has" || o.what != "Define" && o.x == o.y
	for q := range set {
		v, l := q.V, int(q.L)
		dropsV, dropsL := o.what != "Move" && v == o.x, o.what == "Move" && l == o.x || o.what == "Define" && l == o.y
		if same || !dropsV && !dropsL {
			next[q] = true
		}
		switch {
		case o.what == "Copy" && v == o.y:
			next[api.Pair{V: o.x, L: q.L}] = true
		case o.what == "Move" && l == o.y:
			next[api.Pair{V: v, L: api.Loc(o.x)}] = true
		}
	}
	if o.what == "Define" {
		next[api.Pair{V: o.x, L: api.Loc(o.y)}] = true
	}
	return next
}

// model is Check by the wording of the promises.
func model(b api.Block, m api.MBlock, in []api.Pair, most int) Result {
	if len(in) > most {
		return Result{Err: api.ErrGrow, Largest: len(in)}
	}
	rows, at, err := align.Code(b.Code, m.Code)
	if err != api.OK {
		return Result{Err: api.ErrAlign, At: at, Largest: len(in)}
	}
	if !align.Terms(b.Term, m.Term) {
		return Result{Err: api.ErrAlign, At: len(m.Code), Largest: len(in)}
	}
	set := map[api.Pair]bool{}
	for _, q := range in {
		set[q] = true
	}
	r := Result{At: len(m.Code), Largest: len(in)}
	for _, o := range operationsOf(b, m, rows) {
		r.Steps += 1 + len(set)
		if o.what == "Has" && !set[api.Pair{V: o.x, L: api.Loc(o.y)}] {
			r.Err, r.At = api.ErrUse, o.index
			return r
		}
		set = o.after(set)
		r.Largest = max(r.Largest, len(set))
		if len(set) > most {
			r.Err, r.At = api.ErrGrow, o.index
			return r
		}
	}
	for q := range set {
		r.Out = append(r.Out, q)
	}
	r.Out = testkit.OrderedPairs(r.Out)
	return r
}
