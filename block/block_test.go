package block_test

import (
	"fmt"
	"math"
	"slices"
	"testing"

	"quittance/api"
	"quittance/block"
)

// of is an instance of so many nodes, and of arcs between them, by their ends.
func of(nodes int, ends ...[2]int) api.Inst {
	i := api.Inst{Supply: make([]int64, nodes)}
	for _, e := range ends {
		i.Arcs = append(i.Arcs, api.Arc{From: e[0], To: e[1], Cap: 1})
	}
	return i
}

// ring is an instance of so many nodes, from each of which an arc goes to the next one, and from the last one to the first.
func ring(nodes int) api.Inst {
	i := of(nodes)
	for n := range nodes {
		i.Arcs = append(i.Arcs, api.Arc{From: n, To: (n + 1) % nodes})
	}
	return i
}

// line is an instance of so many nodes, from each of which an arc goes to the next one.
func line(nodes int) api.Inst {
	i := ring(nodes)
	i.Arcs = i.Arcs[:nodes-1]
	return i
}

// star is an instance of so many nodes, from the first of which an arc goes to each other one.
func star(nodes int) api.Inst {
	i := of(nodes)
	for n := 1; n < nodes; n++ {
		i.Arcs = append(i.Arcs, api.Arc{From: 0, To: n})
	}
	return i
}

// beads are so many rings of three arcs, each of which shares a node with the next one.
func beads(rings int) api.Inst {
	i := of(2*rings + 1)
	for n := 0; n < 2*rings; n += 2 {
		i.Arcs = append(i.Arcs, api.Arc{From: n, To: n + 1}, api.Arc{From: n + 1, To: n + 2}, api.Arc{From: n + 2, To: n})
	}
	return i
}

// scattered is an instance of so many nodes and arcs, whose ends lie from one below to one above the nodes.
func scattered(nodes, arcs int) api.Inst {
	i := of(nodes)
	at := uint32(nodes*257 + arcs)
	next := func() int {
		at = at*1664525 + 1013904223
		return int(at>>8)%(nodes+2) - 1
	}
	for range arcs {
		i.Arcs = append(i.Arcs, api.Arc{From: next(), To: next()})
	}
	return i
}

// near is a scattered instance whose arcs go no further than to the next nodes but so many: it has many blocks.
func near(nodes, arcs, far int) api.Inst {
	i := scattered(nodes, arcs)
	for k, a := range i.Arcs {
		i.Arcs[k].To = a.From + a.To%(far+1)
	}
	return i
}

// counts says whether an arc counts.
func counts(i api.Inst, a int) bool {
	if a < 0 || a >= len(i.Arcs) {
		return false
	}
	from, to := i.Arcs[a].From, i.Arcs[a].To
	return 0 <= from && from < len(i.Supply) && 0 <= to && to < len(i.Supply) && from != to
}

// comings says plainly of each node who is together with it by arcs that do not touch v: the least one that is, arc by arc, till nothing is new.
func comings(i api.Inst, v int) []int {
	least := make([]int, len(i.Supply))
	for n := range least {
		least[n] = n
	}
	for more := true; more; {
		more = false
		for a, arc := range i.Arcs {
			if counts(i, a) && arc.From != v && arc.To != v && least[arc.From] != least[arc.To] {
				low := min(least[arc.From], least[arc.To])
				least[arc.From], least[arc.To], more = low, low, true
			}
		}
	}
	return least
}

// plain is what is told plainly of an instance: comings without each of its nodes.
type plain struct {
	i     api.Inst
	comes [][]int
}

func plainly(i api.Inst) plain {
	p := plain{i: i}
	for v := range i.Supply {
		p.comes = append(p.comes, comings(i, v))
	}
	return p
}

// apart is what Apart has to tell.
func (p plain) apart(a, b, v int) bool {
	if !counts(p.i, a) || !counts(p.i, b) || v < 0 || v >= len(p.i.Supply) {
		return false
	}
	for _, n := range []int{p.i.Arcs[a].From, p.i.Arcs[a].To} {
		for _, m := range []int{p.i.Arcs[b].From, p.i.Arcs[b].To} {
			if n != v && m != v && p.comes[v][n] == p.comes[v][m] {
				return false
			}
		}
	}
	return true
}

// one says whether two arcs are of one block.
func (p plain) one(a, b int) bool {
	if !counts(p.i, a) || !counts(p.i, b) {
		return false
	}
	for v := range p.i.Supply {
		if a != b && p.apart(a, b, v) {
			return false
		}
	}
	return true
}

// blocks is what Blocks has to tell: of each arc those that are of one block with it, if it is the least of them.
func (p plain) blocks() [][]int {
	var blocks [][]int
	for a := range p.i.Arcs {
		var l []int
		for b := range p.i.Arcs {
			if p.one(a, b) {
				l = append(l, b)
			}
		}
		if len(l) > 0 && l[0] == a {
			blocks = append(blocks, l)
		}
	}
	return blocks
}

// cuts is what Cuts has to tell.
func (p plain) cuts(blocks [][]int) []int {
	var cuts []int
	for n := range p.i.Supply {
		touching := 0
		for _, block := range blocks {
			if slices.ContainsFunc(block, func(a int) bool { return p.i.Arcs[a].From == n || p.i.Arcs[a].To == n }) {
				touching++
			}
		}
		if touching >= 2 {
			cuts = append(cuts, n)
		}
	}
	return cuts
}

// same says whether two tell the same blocks.
func same(a, b [][]int) bool { return slices.EqualFunc(a, b, slices.Equal[[]int]) }

// hold holds Blocks and Cuts of an instance against a plain telling, and Apart of some of its arcs and of some nodes.
func hold(t *testing.T, i api.Inst, arcs, nodes []int) {
	t.Helper()
	p := plainly(i)
	blocks := p.blocks()
	if is := block.Blocks(i); !same(is, blocks) {
		t.Fatalf("Blocks of %v: %v, not %v", i, is, blocks)
	}
	if is, want := block.Cuts(i), p.cuts(blocks); !slices.Equal(is, want) {
		t.Fatalf("Cuts of %v: %v, not %v", i, is, want)
	}
	for _, a := range arcs {
		for _, b := range arcs {
			for _, v := range nodes {
				if is, want := block.Apart(i, a, b, v), p.apart(a, b, v); is != want {
					t.Fatalf("Apart of %v, %d, %d, %d: %v, not %v", i, a, b, v, is, want)
				}
			}
		}
	}
}

// around are all numbers from one below nought to many, which is one above those of so many.
func around(many int) []int {
	var l []int
	for n := -1; n <= many; n++ {
		l = append(l, n)
	}
	return l
}

// holdAll holds all that can be told of an instance.
func holdAll(t *testing.T, i api.Inst) {
	t.Helper()
	hold(t, i, around(len(i.Arcs)), around(len(i.Supply)))
}

func TestExample(t *testing.T) {
	i := of(3, [2]int{0, 1}, [2]int{1, 2}, [2]int{2, 1})
	if l := block.Blocks(i); !same(l, [][]int{{0}, {1, 2}}) {
		t.Errorf("Blocks: %v", l)
	}
	if l := block.Cuts(i); !slices.Equal(l, []int{1}) {
		t.Errorf("Cuts: %v", l)
	}
	if !block.Apart(i, 0, 1, 1) || block.Apart(i, 1, 2, 1) || block.Apart(i, 0, 1, 0) || block.Apart(i, 0, 1, 2) {
		t.Error("Apart: not what the blocks tell")
	}
}

type edge struct {
	name   string
	i      api.Inst
	blocks [][]int
	cuts   []int
}

// edges are those that the chapter names, and others.
func edges() []edge {
	stray := of(3, [2]int{-1, 0}, [2]int{0, 3}, [2]int{3, 3}, [2]int{-1, -1}, [2]int{math.MinInt, 1}, [2]int{1, math.MaxInt}, [2]int{2, 1}, [2]int{1, -1})
	return []edge{
		{"nothing", api.Inst{}, nil, nil},
		{"no nodes", of(0, [2]int{0, 0}, [2]int{0, 1}, [2]int{-1, 0}), nil, nil},
		{"a node", of(1), nil, nil},
		{"a LOOP", of(1, [2]int{0, 0}), nil, nil},
		{"LOOPS side by side", of(2, [2]int{1, 1}, [2]int{1, 1}, [2]int{0, 0}), nil, nil},
		{"no arcs", of(3), nil, nil},
		{"an arc", of(2, [2]int{0, 1}), [][]int{{0}}, nil},
		{"an arc to a lesser node", of(2, [2]int{1, 0}), [][]int{{0}}, nil},
		{"arcs side by side", of(2, [2]int{0, 1}, [2]int{0, 1}, [2]int{0, 1}), [][]int{{0, 1, 2}}, nil},
		{"there and back", of(2, [2]int{0, 1}, [2]int{1, 0}), [][]int{{0, 1}}, nil},
		{"LOOPS among arcs", of(3, [2]int{0, 0}, [2]int{0, 1}, [2]int{1, 1}, [2]int{1, 2}, [2]int{2, 2}), [][]int{{1}, {3}}, []int{1}},
		{"a line", line(4), [][]int{{0}, {1}, {2}}, []int{1, 2}},
		{"a line of arcs side by side", of(3, [2]int{1, 2}, [2]int{0, 1}, [2]int{2, 1}, [2]int{0, 1}), [][]int{{0, 2}, {1, 3}}, []int{1}},
		{"a star", star(4), [][]int{{0}, {1}, {2}}, []int{0}},
		{"a ring", ring(4), [][]int{{0, 1, 2, 3}}, nil},
		{"a ring of three", ring(3), [][]int{{0, 1, 2}}, nil},
		{"a ring with an arc across", of(4, [2]int{0, 1}, [2]int{1, 2}, [2]int{2, 3}, [2]int{0, 2}, [2]int{0, 3}), [][]int{{0, 1, 2, 3, 4}}, nil},
		{"a ring with a LOOP", of(3, [2]int{0, 1}, [2]int{1, 1}, [2]int{1, 2}, [2]int{2, 0}), [][]int{{0, 2, 3}}, nil},
		{"two rings that share a node", of(5, [2]int{0, 1}, [2]int{4, 0}, [2]int{1, 2}, [2]int{3, 4}, [2]int{2, 0}, [2]int{0, 3}), [][]int{{0, 2, 4}, {1, 3, 5}}, []int{0}},
		{"two rings that share a node, not the first", of(5, [2]int{0, 1}, [2]int{1, 2}, [2]int{2, 0}, [2]int{3, 2}, [2]int{4, 3}, [2]int{2, 4}), [][]int{{0, 1, 2}, {3, 4, 5}}, []int{2}},
		{"two rings that share two nodes", of(4, [2]int{0, 1}, [2]int{1, 2}, [2]int{2, 0}, [2]int{3, 2}, [2]int{1, 3}), [][]int{{0, 1, 2, 3, 4}}, nil},
		{"two rings, an arc between", of(6, [2]int{3, 4}, [2]int{0, 1}, [2]int{4, 5}, [2]int{1, 2}, [2]int{5, 3}, [2]int{2, 0}, [2]int{2, 3}), [][]int{{0, 2, 4}, {1, 3, 5}, {6}}, []int{2, 3}},
		{"two rings, apart", of(6, [2]int{3, 4}, [2]int{0, 1}, [2]int{4, 5}, [2]int{1, 2}, [2]int{5, 3}, [2]int{2, 0}), [][]int{{0, 2, 4}, {1, 3, 5}}, nil},
		{"arcs apart", of(5, [2]int{4, 3}, [2]int{0, 1}), [][]int{{0}, {1}}, nil},
		{"a ring with tails", of(6, [2]int{0, 3}, [2]int{1, 2}, [2]int{4, 1}, [2]int{2, 3}, [2]int{3, 1}, [2]int{5, 4}), [][]int{{0}, {1, 3, 4}, {2}, {5}}, []int{1, 3, 4}},
		{"ends that are no nodes", stray, [][]int{{6}}, nil},
	}
}

func TestEdges(t *testing.T) {
	for _, e := range edges() {
		if l := block.Blocks(e.i); !same(l, e.blocks) {
			t.Errorf("%s: Blocks %v", e.name, l)
		}
		if l := block.Cuts(e.i); !slices.Equal(l, e.cuts) {
			t.Errorf("%s: Cuts %v", e.name, l)
		}
		holdAll(t, e.i)
	}
}

func TestApart(t *testing.T) {
	// Two rings that share the node 2, a LOOP there, an arc of its own, and one that counts for nothing.
	i := of(8, [2]int{0, 1}, [2]int{1, 2}, [2]int{2, 0}, [2]int{2, 3}, [2]int{3, 4}, [2]int{4, 2}, [2]int{2, 2}, [2]int{5, 6}, [2]int{2, 8})
	checks := []struct {
		a, b, v int
		apart   bool
	}{
		{0, 4, 2, true},  // neither touches it
		{1, 3, 2, true},  // both touch it
		{1, 4, 2, true},  // one touches it
		{4, 1, 2, true},  // the other one does
		{0, 4, 0, false}, // round by the node 1
		{0, 4, 7, false},
		{0, 1, 2, false}, // of one ring
		{0, 1, 1, false},
		{1, 2, 2, false},
		{0, 0, 0, false}, // an arc and itself
		{0, 0, 2, false},
		{0, 7, 2, true}, // not together ahead of it either: each node parts them
		{0, 7, 0, true},
		{7, 4, 6, true},
		{7, 0, 7, true},
		{7, 7, 5, false},
		{6, 0, 2, false}, // a LOOP
		{0, 6, 2, false},
		{6, 6, 2, false},
		{8, 0, 2, false}, // an end that is no node
		{0, 8, 2, false},
		{8, 7, 2, false},
		{0, 9, 2, false}, // no arcs
		{9, 0, 2, false},
		{-1, 0, 2, false},
		{0, -1, 2, false},
		{math.MaxInt, math.MinInt, 2, false},
		{0, 7, -1, false}, // no nodes
		{0, 7, 8, false},
		{0, 4, math.MinInt, false},
		{0, 4, math.MaxInt, false},
	}
	for _, c := range checks {
		if is := block.Apart(i, c.a, c.b, c.v); is != c.apart {
			t.Errorf("Apart of %d, %d, %d: %v", c.a, c.b, c.v, is)
		}
	}
}

// TestApartOfNone asks of numbers where there are no arcs, or no nodes.
func TestApartOfNone(t *testing.T) {
	for _, i := range []api.Inst{{}, of(1), of(3), of(0, [2]int{0, 0}, [2]int{0, 1}, [2]int{-1, 0}), of(1, [2]int{0, 0}, [2]int{0, 1})} {
		for _, a := range around(3) {
			for _, b := range around(3) {
				for _, v := range around(3) {
					if block.Apart(i, a, b, v) {
						t.Errorf("Apart of %v, %d, %d, %d", i, a, b, v)
					}
				}
			}
		}
	}
}

// TestOfAll goes through all instances of at most 3 nodes and 3 arcs, whose ends are nodes, or just none.
func TestOfAll(t *testing.T) {
	for nodes := range 4 {
		var arcs []api.Arc
		for from := -1; from <= nodes; from++ {
			for to := -1; to <= nodes; to++ {
				arcs = append(arcs, api.Arc{From: from, To: to})
			}
		}
		lists := [][]api.Arc{nil}
		for first := 0; first < len(lists); first++ {
			l := lists[first]
			holdAll(t, api.Inst{Supply: make([]int64, nodes), Arcs: l})
			if len(l) == 3 {
				continue
			}
			for _, a := range arcs {
				lists = append(lists, append(slices.Clone(l), a))
			}
		}
	}
}

// pairs are instances of so many nodes, one for each set of pairs that arcs may go between; turned, so that their order is not that of the nodes.
func pairs(nodes, turn int, tell func(i api.Inst)) {
	var all [][2]int
	for n := range nodes {
		for m := range n {
			all = append(all, [2]int{(n + turn) % nodes, (m + turn) % nodes})
		}
	}
	for set := range 1 << len(all) {
		i := of(nodes)
		for k, ends := range all {
			if set>>k&1 == 1 {
				i.Arcs = append(i.Arcs, api.Arc{From: ends[0], To: ends[1]})
			}
		}
		tell(i)
	}
}

// TestOfAllPairs goes through all instances of 5 and 6 nodes with an arc, or none, between each and each.
func TestOfAllPairs(t *testing.T) {
	pairs(5, 2, func(i api.Inst) { hold(t, i, around(len(i.Arcs)), around(len(i.Supply))) })
	pairs(6, 1, func(i api.Inst) {
		many := len(i.Arcs)
		hold(t, i, []int{0, many / 2, many - 1}, []int{many % 6})
	})
}

func TestOfMany(t *testing.T) {
	for _, s := range [][2]int{{1, 256}, {2, 256}, {5, 40}, {7, 9}, {20, 25}, {64, 0}, {64, 63}, {64, 80}, {64, 120}, {64, 256}} {
		for _, i := range []api.Inst{scattered(s[0], s[1]), near(s[0], s[1], 1), near(s[0], s[1], 2), near(s[0], s[1], 5)} {
			hold(t, i, []int{0, 3, s[1] / 2, s[1] - 1}, []int{0, 1, s[0] / 2, s[0] - 1, s[0]})
		}
	}
	for arcs := range 30 {
		holdAll(t, scattered(12, arcs))
		holdAll(t, near(12, arcs, 3))
	}
	for _, i := range []api.Inst{ring(64), line(64), star(64), beads(31)} {
		hold(t, i, []int{0, 5, 31, 60}, around(64))
	}
	// More nodes and arcs than an instance may have that is right.
	for _, i := range []api.Inst{scattered(65, 257), scattered(100, 300), near(300, 400, 3), ring(130), beads(60)} {
		hold(t, i, []int{0, 64, 128, 256}, []int{0, 64, 65, 70, 99, 120})
	}
}

// TestOfVeryMany goes far: what is told takes no more time than there are nodes and arcs, but for sorting, and no nesting.
func TestOfVeryMany(t *testing.T) {
	const nodes = 200001
	alone := func(many int) [][]int {
		var l [][]int
		for a := range many {
			l = append(l, []int{a})
		}
		return l
	}
	run := func(many int) []int {
		var l []int
		for n := range many {
			l = append(l, n)
		}
		return l
	}
	var triples [][]int
	var odds []int
	for k := range nodes / 2 {
		triples = append(triples, []int{3 * k, 3*k + 1, 3*k + 2})
		odds = append(odds, 2*k)
	}
	for _, c := range []struct {
		edge
		apart bool
	}{
		{edge{"a line", line(nodes), alone(nodes - 1), run(nodes - 1)[1:]}, true},
		{edge{"a ring", ring(nodes), [][]int{run(nodes)}, nil}, false},
		{edge{"a star", star(nodes), alone(nodes - 1), []int{0}}, false},
		{edge{"beads", beads(nodes / 2), triples, odds[1:]}, true},
		{edge{"no arcs", of(nodes), nil, nil}, false},
	} {
		if is := block.Blocks(c.i); !same(is, c.blocks) {
			t.Errorf("Blocks of %s: otherwise", c.name)
		}
		if is := block.Cuts(c.i); !slices.Equal(is, c.cuts) {
			t.Errorf("Cuts of %s: otherwise", c.name)
		}
		if is := block.Apart(c.i, 0, len(c.i.Arcs)-1, nodes/2); is != c.apart {
			t.Errorf("Apart of the first and the last arc of %s: %v", c.name, is)
		}
	}
}

// TestEachCountingArcIsInOneBlock looks whether each is, and no other, whether each block is rising, and whether they stand by their least arcs.
func TestEachCountingArcIsInOneBlock(t *testing.T) {
	for _, i := range []api.Inst{scattered(30, 25), scattered(30, 45), scattered(50, 60), near(64, 256, 3), near(64, 100, 4), beads(20)} {
		in := make([]int, len(i.Arcs))
		last := -1
		for _, l := range block.Blocks(i) {
			if len(l) == 0 || !slices.IsSorted(l) || l[0] <= last {
				t.Fatalf("of %v: the block %v behind %d", i, l, last)
			}
			last = l[0]
			for _, a := range l {
				in[a]++
			}
		}
		for a, many := range in {
			if many > 1 || (many == 1) != counts(i, a) {
				t.Errorf("of %v: the arc %d is in %d blocks", i, a, many)
			}
		}
	}
}

// TestBlocksAreApartByCuts looks whether just the Cuts, and nodes that do not hang together with arcs, part arcs, and whether Apart looks at its arcs alike.
func TestBlocksAreApartByCuts(t *testing.T) {
	for _, i := range []api.Inst{near(12, 20, 2), near(14, 24, 3), beads(5), line(9), star(6), scattered(10, 14)} {
		parting := map[int]bool{}
		whole := comings(i, -1)
		for a, arc := range i.Arcs {
			for b, other := range i.Arcs {
				for v := range i.Supply {
					is := block.Apart(i, a, b, v)
					if is != block.Apart(i, b, a, v) {
						t.Errorf("Apart of %v, %d, %d, %d is told otherwise of %d, %d", i, a, b, v, b, a)
					}
					if is && whole[arc.From] == whole[other.From] {
						parting[v] = true
					}
				}
			}
		}
		for n := range i.Supply {
			if parting[n] != slices.Contains(block.Cuts(i), n) {
				t.Errorf("Cuts of %v: %v, but %d parts arcs: %v", i, block.Cuts(i), n, parting[n])
			}
		}
	}
}

// told is all that is told of an instance, as a text; Apart of all its arcs, by some nodes.
func told(i api.Inst) string {
	var apart []bool
	for a := range i.Arcs {
		for b := range i.Arcs {
			for v := range len(i.Supply) {
				apart = append(apart, block.Apart(i, a, b, v))
			}
		}
	}
	return fmt.Sprint(block.Blocks(i), block.Cuts(i), apart)
}

// TestOnlyEndsCount changes bounds, costs and Supplies to right ones and to wrong ones: the same is told.
func TestOnlyEndsCount(t *testing.T) {
	numbers := []int64{0, 1, -1, api.MaxNum, -api.MaxNum, api.Inf, math.MaxInt64, math.MinInt64}
	for _, i := range []api.Inst{scattered(9, 12), near(9, 20, 2), beads(3), ring(5), line(6)} {
		want := told(i)
		for shift := range numbers {
			other := api.Inst{Supply: slices.Clone(i.Supply), Arcs: slices.Clone(i.Arcs)}
			number := func(k int) int64 { return numbers[(k+shift)%len(numbers)] }
			for n := range other.Supply {
				other.Supply[n] = number(n)
			}
			for k := range other.Arcs {
				other.Arcs[k].Low, other.Arcs[k].Cap, other.Arcs[k].Cost = number(k), number(2*k+1), number(3*k+2)
			}
			if is := told(other); is != want {
				t.Errorf("of %v: %s, not %s", other, is, want)
			}
		}
	}
}

// TestWaysArcsGoDoNotCount turns arcs round, one, some, or all: the same is told.
func TestWaysArcsGoDoNotCount(t *testing.T) {
	for _, i := range []api.Inst{scattered(9, 12), near(9, 20, 2), beads(3), ring(5), line(6)} {
		want := told(i)
		for set := 1; set < 1<<len(i.Arcs); set = 3*set + 2 {
			other := api.Inst{Supply: i.Supply, Arcs: slices.Clone(i.Arcs)}
			for k, a := range other.Arcs {
				if set>>k&1 == 1 {
					other.Arcs[k].From, other.Arcs[k].To = a.To, a.From
				}
			}
			if is := told(other); is != want {
				t.Errorf("of %v: %s, not %s", other, is, want)
			}
		}
	}
}

// TestNumbersDoNotCount tells nodes and arcs other numbers: blocks and Cuts are the same, by these.
func TestNumbersDoNotCount(t *testing.T) {
	for _, i := range []api.Inst{scattered(30, 45), near(30, 60, 2), near(30, 60, 4), beads(9), line(12)} {
		nodes, arcs := len(i.Supply), len(i.Arcs)
		other := of(nodes)
		for k := range arcs {
			a := i.Arcs[arcs-1-k]
			if a.From >= 0 && a.From < nodes && a.To >= 0 && a.To < nodes {
				a.From, a.To = nodes-1-a.From, nodes-1-a.To
			}
			other.Arcs = append(other.Arcs, a)
		}
		want := block.Blocks(i)
		for _, l := range want {
			for k := range l {
				l[k] = arcs - 1 - l[k]
			}
			slices.Reverse(l)
		}
		slices.SortFunc(want, slices.Compare)
		if is := block.Blocks(other); !same(is, want) {
			t.Errorf("Blocks of %v, renumbered: %v, not %v", i, is, want)
		}
		cuts := block.Cuts(i)
		for k := range cuts {
			cuts[k] = nodes - 1 - cuts[k]
		}
		slices.Reverse(cuts)
		if is := block.Cuts(other); !slices.Equal(is, cuts) {
			t.Errorf("Cuts of %v, renumbered: %v, not %v", i, is, cuts)
		}
	}
}
