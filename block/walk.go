package block

import (
	"slices"

	"quittance/adj"
)

// walk goes from node to node, as far as arcs lead, and gathers their blocks.
type walk struct {
	g *adj.Graph
	// The steps from where it started to the node that it is at.
	path []step
	// Of each node how many steps led to it when it was met; 0, if it was not met yet.
	depth []int
	// Arcs that were gone, or looked at, and are of no block yet.
	open   []int
	blocks [][]int
}

// step is a node on the path.
type step struct {
	node int
	// Arcs that touch it, still to be looked at.
	rest []int
	// How far back arcs lead from it, and from what was met behind it: the depth there.
	back int
	// How many arcs were open ahead of the one that led to it.
	open int
}

func newWalk(g *adj.Graph) *walk { return &walk{g: g, depth: make([]int, g.Nodes())} }

// met says whether it came to a node.
func (w *walk) met(n int) bool { return w.depth[n] > 0 }

// from goes through all nodes that are come to from one, and were not met yet.
func (w *walk) from(start int) {
	if w.met(start) {
		return
	}
	w.enter(start, -1)
	for len(w.path) > 0 {
		top := &w.path[len(w.path)-1]
		if len(top.rest) == 0 {
			w.leave()
			continue
		}
		a := top.rest[0]
		top.rest = top.rest[1:]
		w.look(top, a)
	}
}

// enter steps to a node, by an arc.
func (w *walk) enter(n, by int) {
	// That arc alone leads not back: another one beside it does.
	rest := slices.DeleteFunc(w.g.At(n), func(a int) bool { return a == by })
	w.path = append(w.path, step{n, rest, len(w.path) + 1, len(w.open)})
	w.depth[n] = len(w.path)
}

// look goes an arc to a node that was not met yet, or takes it as one that leads back.
func (w *walk) look(top *step, a int) {
	other := w.g.Other(a, top.node)
	switch {
	case !w.met(other):
		w.enter(other, a)
		w.open = append(w.open, a)
	// A LOOP leads no further back; an arc to a deeper node was looked at from there.
	case w.depth[other] < w.depth[top.node]:
		top.back = min(top.back, w.depth[other])
		w.open = append(w.open, a)
	}
}

// leave steps back. If no arc led further back than there, all that is open since is a block.
func (w *walk) leave() {
	last := len(w.path) - 1
	left := w.path[last]
	w.path = w.path[:last]
	if last == 0 {
		return
	}
	top := &w.path[last-1]
	if left.back < w.depth[top.node] {
		top.back = min(top.back, left.back)
		return
	}
	w.blocks = append(w.blocks, slices.Clone(w.open[left.open:]))
	w.open = w.open[:left.open]
}
