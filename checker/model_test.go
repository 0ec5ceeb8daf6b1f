package checker

import (
	"slices"

	"regcert/api"
	"regcert/blockcheck"
	"regcert/edge"
	"regcert/machine"
	"regcert/source"
)

// validModel is Valid by the wording of P16.1.
func validModel(c api.Cert) api.Errno {
	agree := api.OK
	if len(c.S.Blocks) != len(c.T.Blocks) || c.S.Args != c.T.Args {
		agree = api.ErrCount
	}
	for _, err := range []api.Errno{source.Check(c.S), machine.Check(c.T), agree, edge.Valid(c.W, len(c.T.Blocks), c.S.Regs, c.T.Regs, c.T.Slots)} {
		if err != 0 {
			return err
		}
	}
	return api.OK
}

// A part is a part of a check: its own error and position, and what it adds to the report.
type part struct {
	err                           api.Errno
	block, at                     int
	blocks, edges, steps, largest int
}

// edgesOf returns the targets of the edges of a valid terminator, by the wording of layer 7.
func edgesOf(t api.Term) []int {
	return [][]int{nil, {t.To}, {t.To, t.Else}, nil}[t.Kind]
}

// partsOf returns all parts of a check of a valid certificate in their order, also those behind an error, by the wording of the definition and of P16.3.
func partsOf(c api.Cert) []part {
	entry := part{steps: 1 + len(c.W[0])}
	for _, q := range c.W[0] {
		if !edge.Initial(q, c.T.Args) {
			entry.err = api.ErrEntry
		}
	}
	parts := []part{entry}
	for k := range c.W {
		r := blockcheck.Check(c.S.Blocks[k], c.T.Blocks[k], c.W[k], 1<<20)
		own := part{err: r.Err, blocks: 1, steps: r.Steps, largest: r.Largest}
		if r.Err != 0 {
			own.block, own.at = k, r.At
		}
		parts = append(parts, own)
		for n, to := range edgesOf(c.S.Blocks[k].Term) {
			next := part{edges: 1, steps: 1 + len(r.Out) + len(c.W[to])}
			for _, q := range c.W[to] {
				if !slices.Contains(r.Out, q) {
					next.err, next.block, next.at = api.ErrEdge, k, n
				}
			}
			parts = append(parts, next)
		}
	}
	return parts
}

// model is Check by the wording of P16.2 and P16.3: the sum of the parts up to the first error.
func model(c api.Cert) api.Report {
	if err := validModel(c); err != 0 {
		return api.Report{Err: err}
	}
	var r api.Report
	for _, l := range c.W {
		r.Largest = max(r.Largest, len(l))
	}
	for _, x := range partsOf(c) {
		r.Blocks += x.blocks
		r.Edges += x.edges
		r.Steps += x.steps
		r.Largest = max(r.Largest, x.largest)
		if x.err != 0 {
			r.Err, r.Block, r.At = x.err, x.block, x.at
			break
		}
	}
	return r
}

// boundModel is Bound by the wording of P16.4.
func boundModel(c api.Cert, largest int) int {
	n := len(c.S.Blocks) + 1
	for _, b := range c.S.Blocks {
		n += len(b.Code) + len(edgesOf(b.Term))
	}
	for _, b := range c.T.Blocks {
		n += len(b.Code)
	}
	return n*3*largest + n*3
}
