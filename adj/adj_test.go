package adj_test

import (
	"math"
	"slices"
	"testing"

	"quittance/adj"
	"quittance/api"
)

// several is an instance with LOOPS, arcs that are alike, arcs there and back, and a node that no arc touches.
func several() api.Inst {
	return api.Inst{
		Supply: []int64{5, -7, 0, 2, 0},
		Arcs: []api.Arc{
			{From: 0, To: 1, Low: 1, Cap: 2, Cost: 3},
			{From: 1, To: 1, Low: 0, Cap: api.Inf, Cost: -4},
			{From: 3, To: 2, Low: 5, Cap: 5, Cost: 6},
			{From: 0, To: 1, Low: 1, Cap: 2, Cost: 3},
			{From: 2, To: 0, Low: 0, Cap: 0, Cost: 0},
			{From: 1, To: 1, Low: 8, Cap: 9, Cost: 10},
			{From: 1, To: 0, Low: 0, Cap: 7, Cost: -1},
		},
	}
}

// wrong is an instance of which much is wrong: arcs with an end that is no node lie among others.
func wrong() api.Inst {
	return api.Inst{
		Supply: []int64{math.MaxInt64, math.MinInt64, 9},
		Arcs: []api.Arc{
			{From: -1, To: 0},
			{From: 0, To: 3},
			{From: 2, To: 1, Low: -4, Cap: -5, Cost: math.MaxInt64},
			{From: 3, To: 3},
			{From: -1, To: -1},
			{From: 1, To: 1, Low: 7, Cap: 6, Cost: math.MinInt64},
			{From: math.MaxInt, To: math.MinInt},
			{From: math.MinInt, To: 1},
			{From: 1, To: math.MaxInt},
			{From: 3, To: 2},
			{From: 2, To: -1},
			{From: 2, To: 1, Low: -4, Cap: -5, Cost: math.MaxInt64},
		},
	}
}

// beyond are numbers far from those of any node or arc.
var beyond = []int{math.MinInt, -1 << 32, -2, -1, 1 << 32, math.MaxInt - 1, math.MaxInt}

// asked are the numbers from some below 0 to some above many, and those far beyond.
func asked(many int) []int {
	l := slices.Clone(beyond)
	for n := range many + 3 {
		l = append(l, n)
	}
	return l
}

// told is all that a graph tells of one node.
type told struct {
	out, in, at []int
	loops       int
}

// toldBy is what a graph tells of a node.
func toldBy(g *adj.Graph, n int) told {
	return told{g.Out(n), g.In(n), g.At(n), g.Loops(n)}
}

// same says whether the same is told.
func (x told) same(y told) bool {
	return slices.Equal(x.out, y.out) && slices.Equal(x.in, y.in) && slices.Equal(x.at, y.at) && x.loops == y.loops
}

// joins says whether both ends of an arc are nodes of an instance.
func joins(i api.Inst, a api.Arc) bool {
	return 0 <= a.From && a.From < len(i.Supply) && 0 <= a.To && a.To < len(i.Supply)
}

// plainly is what has to be told of a node, arc by arc.
func plainly(i api.Inst, n int) told {
	var x told
	for k, a := range i.Arcs {
		if !joins(i, a) {
			continue
		}
		if a.From == n {
			x.out = append(x.out, k)
		}
		if a.To == n {
			x.in = append(x.in, k)
		}
		if a.From == n || a.To == n {
			x.at = append(x.at, k)
		}
		if a.From == n && a.To == n {
			x.loops++
		}
	}
	return x
}

// otherOf is what has to be told of an arc and a node.
func otherOf(i api.Inst, k, n int) int {
	if k < 0 || k >= len(i.Arcs) || !joins(i, i.Arcs[k]) {
		return -1
	}
	switch a := i.Arcs[k]; n {
	case a.From:
		return a.To
	case a.To:
		return a.From
	}
	return -1
}

// holdNodes holds all that a graph tells of nodes against a plain telling.
func holdNodes(t *testing.T, g *adj.Graph, i api.Inst) {
	t.Helper()
	if many := g.Nodes(); many != len(i.Supply) {
		t.Fatalf("Nodes of %v: %d", i, many)
	}
	for _, n := range asked(len(i.Supply)) {
		if is, want := toldBy(g, n), plainly(i, n); !is.same(want) {
			t.Fatalf("of %v, node %d: %v is told, not %v", i, n, is, want)
		}
	}
}

// holdArcs holds all that a graph tells of arcs against a plain telling.
func holdArcs(t *testing.T, g *adj.Graph, i api.Inst) {
	t.Helper()
	for _, k := range asked(len(i.Arcs)) {
		arc, ok := g.Arc(k)
		var want api.Arc
		is := 0 <= k && k < len(i.Arcs) && joins(i, i.Arcs[k])
		if is {
			want = i.Arcs[k]
		}
		if arc != want || ok != is {
			t.Fatalf("of %v, arc %d: %v, %v", i, k, arc, ok)
		}
		for _, n := range asked(len(i.Supply)) {
			if other, want := g.Other(k, n), otherOf(i, k, n); other != want {
				t.Fatalf("of %v, Other of %d and %d: %d", i, k, n, other)
			}
		}
	}
}

// hold holds all that the graph of an instance tells against a plain telling.
func hold(t *testing.T, i api.Inst) {
	t.Helper()
	g := adj.New(i)
	holdNodes(t, g, i)
	holdArcs(t, g, i)
}

func TestExample(t *testing.T) {
	g := adj.New(api.Inst{Supply: []int64{3, -3}, Arcs: []api.Arc{{From: 0, To: 1, Cap: 5}}})
	checks := []struct {
		n    int
		told told
	}{
		{-1, told{}},
		{0, told{out: []int{0}, at: []int{0}}},
		{1, told{in: []int{0}, at: []int{0}}},
		{2, told{}},
	}
	for _, c := range checks {
		if is := toldBy(g, c.n); !is.same(c.told) {
			t.Errorf("of the node %d: %v", c.n, is)
		}
	}
	if arc, ok := g.Arc(0); !ok || arc != (api.Arc{From: 0, To: 1, Cap: 5}) {
		t.Errorf("Arc of 0: %v, %v", arc, ok)
	}
	if g.Other(0, 0) != 1 || g.Other(0, 1) != 0 {
		t.Errorf("Other of 0 and its ends: %d, %d", g.Other(0, 0), g.Other(0, 1))
	}
}

func TestOfNodes(t *testing.T) {
	checks := []struct {
		name string
		i    api.Inst
		told []told
	}{
		{"no nodes", api.Inst{}, nil},
		{"no nodes, by empty lists", api.Inst{Supply: []int64{}, Arcs: []api.Arc{}}, nil},
		{"no nodes, arcs", api.Inst{Arcs: []api.Arc{{}, {From: 1}, {From: -1, To: -1}}}, nil},
		{"no arcs", api.Inst{Supply: []int64{1, -1}}, []told{{}, {}}},
		{"a LOOP", api.Inst{Supply: []int64{0}, Arcs: []api.Arc{{}}}, []told{{[]int{0}, []int{0}, []int{0}, 1}}},
		{"several", several(), []told{
			{[]int{0, 3}, []int{4, 6}, []int{0, 3, 4, 6}, 0},
			{[]int{1, 5, 6}, []int{0, 1, 3, 5}, []int{0, 1, 3, 5, 6}, 2},
			{[]int{4}, []int{2}, []int{2, 4}, 0},
			{[]int{2}, nil, []int{2}, 0},
			{},
		}},
		{"wrong", wrong(), []told{
			{},
			{[]int{5}, []int{2, 5, 11}, []int{2, 5, 11}, 1},
			{[]int{2, 11}, nil, []int{2, 11}, 0},
		}},
	}
	for _, c := range checks {
		g := adj.New(c.i)
		if g.Nodes() != len(c.told) {
			t.Errorf("of %s: %d nodes", c.name, g.Nodes())
		}
		for n, want := range c.told {
			if is := toldBy(g, n); !is.same(want) {
				t.Errorf("of %s, node %d: %v", c.name, n, is)
			}
		}
		for _, n := range append(slices.Clone(beyond), len(c.told), len(c.told)+1) {
			if is := toldBy(g, n); !is.same(told{}) {
				t.Errorf("of %s, %d that is no node: %v", c.name, n, is)
			}
		}
	}
}

func TestArc(t *testing.T) {
	i := several()
	g := adj.New(i)
	for k, want := range i.Arcs {
		if arc, ok := g.Arc(k); !ok || arc != want {
			t.Errorf("Arc of %d: %v, %v", k, arc, ok)
		}
	}
	for _, k := range append(slices.Clone(beyond), 7, 8) {
		if arc, ok := g.Arc(k); ok || arc != (api.Arc{}) {
			t.Errorf("Arc of %d that is none: %v, %v", k, arc, ok)
		}
	}
	g = adj.New(wrong())
	for k, want := range wrong().Arcs {
		is := k == 2 || k == 5 || k == 11
		if !is {
			want = api.Arc{}
		}
		if arc, ok := g.Arc(k); ok != is || arc != want {
			t.Errorf("Arc of %d of what is wrong: %v, %v", k, arc, ok)
		}
	}
}

func TestOther(t *testing.T) {
	right, off := adj.New(several()), adj.New(wrong())
	checks := []struct {
		name        string
		g           *adj.Graph
		a, n, other int
	}{
		{"an arc's From", right, 0, 0, 1},
		{"an arc's To", right, 0, 1, 0},
		{"a node that it does not touch", right, 0, 2, -1},
		{"a node that no arc touches", right, 0, 4, -1},
		{"an arc's like", right, 3, 0, 1},
		{"an arc back, its From", right, 6, 1, 0},
		{"an arc back, its To", right, 6, 0, 1},
		{"a LOOP", right, 1, 1, 1},
		{"a LOOP, and another node", right, 1, 0, -1},
		{"no node, below", right, 0, -1, -1},
		{"no node, above", right, 0, 5, -1},
		{"no node, far above", right, 0, math.MaxInt, -1},
		{"no arc, below", right, -1, 0, -1},
		{"no arc, above", right, 7, 0, -1},
		{"no arc, far below", right, math.MinInt, 0, -1},
		{"no arc and no node", right, -1, -1, -1},
		{"From is no node, asked of To", off, 0, 0, -1},
		{"From is no node, asked of it", off, 0, -1, -1},
		{"To is no node, asked of From", off, 1, 0, -1},
		{"To is no node, asked of it", off, 1, 3, -1},
		{"a LOOP of no node", off, 3, 3, -1},
		{"an arc among those", off, 11, 2, 1},
		{"a LOOP among those", off, 5, 1, 1},
	}
	for _, c := range checks {
		if other := c.g.Other(c.a, c.n); other != c.other {
			t.Errorf("Other of %s: %d", c.name, other)
		}
	}
}

func TestWithoutGraph(t *testing.T) {
	for name, g := range map[string]*adj.Graph{"nil": nil, "a Graph that New did not make": {}} {
		if g.Nodes() != 0 {
			t.Errorf("Nodes of %s: %d", name, g.Nodes())
		}
		for _, n := range asked(2) {
			if is := toldBy(g, n); !is.same(told{}) {
				t.Errorf("of %s, node %d: %v", name, n, is)
			}
			if arc, ok := g.Arc(n); ok || arc != (api.Arc{}) {
				t.Errorf("of %s, Arc of %d: %v, %v", name, n, arc, ok)
			}
			for _, a := range asked(2) {
				if other := g.Other(a, n); other != -1 {
					t.Errorf("of %s, Other of %d and %d: %d", name, a, n, other)
				}
			}
		}
	}
}

// TestOfAll goes through all instances of at most 3 nodes and 3 arcs, whose ends are nodes, or just none.
func TestOfAll(t *testing.T) {
	for nodes := range 4 {
		var arcs []api.Arc
		for from := -1; from <= nodes; from++ {
			for to := -1; to <= nodes; to++ {
				arcs = append(arcs, api.Arc{From: from, To: to})
			}
		}
		lists := [][]api.Arc{nil}
		for first := 0; first < len(lists); first++ {
			l := lists[first]
			hold(t, api.Inst{Supply: make([]int64, nodes), Arcs: l})
			if len(l) == 3 {
				continue
			}
			for _, a := range arcs {
				a.Cost = int64(len(l)) + 1
				lists = append(lists, append(slices.Clone(l), a))
			}
		}
	}
}

// scattered is an instance of so many nodes and arcs, whose ends lie from one below to one above the nodes.
func scattered(nodes, arcs int) api.Inst {
	i := api.Inst{Supply: make([]int64, nodes)}
	at := uint32(nodes + arcs)
	next := func() int {
		at = at*1664525 + 1013904223
		return int(at>>8)%(nodes+2) - 1
	}
	for k := range arcs {
		i.Arcs = append(i.Arcs, api.Arc{From: next(), To: next(), Low: int64(k), Cost: -int64(k)})
	}
	return i
}

func TestOfMany(t *testing.T) {
	sizes := [][2]int{{1, 256}, {2, 256}, {5, 40}, {64, 0}, {64, 63}, {64, 256}, {65, 257}}
	for _, s := range sizes {
		hold(t, scattered(s[0], s[1]))
	}
	alike := api.Inst{Supply: make([]int64, 64), Arcs: slices.Repeat([]api.Arc{{From: 63, To: 0, Cap: 1}}, 256)}
	hold(t, alike)
	loops := api.Inst{Supply: make([]int64, 64), Arcs: slices.Repeat([]api.Arc{{From: 63, To: 63, Cap: 1}}, 256)}
	hold(t, loops)
	// More nodes and arcs than an instance may have that is right, and than a list may: all is told of each.
	for _, s := range [][2]int{{1100, 2}, {3, 1100}, {1100, 3000}} {
		i := scattered(s[0], s[1])
		holdNodes(t, adj.New(i), i)
	}
	i := scattered(3, 1100)
	holdArcs(t, adj.New(i), i)
}

// TestOutOfOneIntoOne looks whether each arc is out of one node, and into one, and at these alone.
func TestOutOfOneIntoOne(t *testing.T) {
	for _, i := range []api.Inst{several(), wrong(), scattered(64, 256), scattered(7, 256), scattered(1, 9)} {
		g := adj.New(i)
		outs, ins, ats := make([]int, len(i.Arcs)), make([]int, len(i.Arcs)), make([]int, len(i.Arcs))
		loops := 0
		for n := range g.Nodes() {
			for _, a := range g.Out(n) {
				outs[a]++
			}
			for _, a := range g.In(n) {
				ins[a]++
			}
			for _, a := range g.At(n) {
				ats[a]++
				if other := g.Other(a, n); g.Other(a, other) != n {
					t.Errorf("arc %d of %v: from %d to %d and not back", a, i, n, other)
				}
			}
			loops += g.Loops(n)
		}
		for a, arc := range i.Arcs {
			ends, touched := 0, 0
			if joins(i, arc) {
				ends, touched = 1, 2
			}
			if arc.From == arc.To && ends == 1 {
				touched = 1
				loops--
			}
			if outs[a] != ends || ins[a] != ends || ats[a] != touched {
				t.Errorf("arc %d of %v: out of %d nodes, into %d, at %d", a, i, outs[a], ins[a], ats[a])
			}
		}
		if loops != 0 {
			t.Errorf("of %v: %d LOOPS too many are told", i, loops)
		}
	}
}
