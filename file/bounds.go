package file

import "quittance/api"

// unbound is the CAP of an arc whose Cap is Inf.
const unbound = -1

// within says whether n is from least to most.
func within(n, least, most int64) bool { return n >= least && n <= most }

// areSizes says whether a file may have so many nodes and arcs.
func areSizes(nodes, arcs int64) bool {
	return within(nodes, 1, api.MaxNodes) && within(arcs, 0, api.MaxArcs)
}

// isID says whether n is the ID of a node, where there are so many.
func isID(n int64, nodes int) bool { return within(n, 1, int64(nodes)) }

// isSigned says whether n may be a FLOW, or a COST.
func isSigned(n int64) bool { return within(n, -api.MaxIn, api.MaxIn) }

// row are the numbers of an arc, as a file has them.
type row struct {
	u, v, low, cap, cost int64
}

// fits says whether a file of so many nodes may have these numbers.
func (r row) fits(nodes int) bool {
	return isID(r.u, nodes) && isID(r.v, nodes) &&
		within(r.low, 0, api.MaxIn) &&
		(r.cap == unbound || within(r.cap, r.low, api.MaxIn)) &&
		isSigned(r.cost)
}

// arc is that of numbers that fit.
func (r row) arc() api.Arc {
	a := api.Arc{From: int(r.u - 1), To: int(r.v - 1), Low: r.low, Cap: r.cap, Cost: r.cost}
	if r.cap == unbound {
		a.Cap = api.Inf
	}
	return a
}

// rowOf are the numbers of an arc in which inst.Right finds nothing wrong.
func rowOf(a api.Arc) row {
	r := row{int64(a.From) + 1, int64(a.To) + 1, a.Low, a.Cap, a.Cost}
	if a.Cap == api.Inf {
		r.cap = unbound
	}
	return r
}
