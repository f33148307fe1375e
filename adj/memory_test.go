package adj_test

import (
	"slices"
	"sync"
	"testing"

	"quittance/adj"
	"quittance/api"
)

// handed is an instance whose lists have more behind their lengths, which would be nodes and arcs.
func handed() api.Inst {
	i := several()
	return api.Inst{
		Supply: append(i.Supply, 77, 78)[:len(i.Supply)],
		Arcs:   append(i.Arcs, api.Arc{From: 4, To: 5}, api.Arc{From: 0, To: 1, Low: 77})[:len(i.Arcs)],
	}
}

// askAll asks a graph all that it can be asked.
func askAll(g *adj.Graph) {
	for n := -1; n <= g.Nodes(); n++ {
		toldBy(g, n)
		for a := -1; a < 9; a++ {
			g.Arc(a)
			g.Other(a, n)
		}
	}
}

// lists are the calls that tell a list.
func lists() map[string]func(g *adj.Graph, n int) []int {
	return map[string]func(g *adj.Graph, n int) []int{
		"Out": (*adj.Graph).Out, "In": (*adj.Graph).In, "At": (*adj.Graph).At,
	}
}

// spoil changes a list, and what lies behind it.
func spoil(l []int) {
	l = l[:cap(l)]
	for k := range l {
		l[k] = 99
	}
}

func TestWhatIsHandedInStays(t *testing.T) {
	i, was := handed(), handed()
	askAll(adj.New(i))
	if !slices.Equal(i.Supply, was.Supply) || !slices.Equal(i.Arcs, was.Arcs) {
		t.Errorf("what was handed in changed: %v", i)
	}
	if !slices.Equal(i.Supply[:7], was.Supply[:7]) || !slices.Equal(i.Arcs[:9], was.Arcs[:9]) {
		t.Error("what lies behind what was handed in changed")
	}
}

// TestNothingHandedInIsKept changes what was handed in, at once and between two calls: the graph is that of the instance as it was.
func TestNothingHandedInIsKept(t *testing.T) {
	i := handed()
	g := adj.New(i)
	for k := range 9 {
		i.Arcs[:9][k] = api.Arc{From: 2, To: 2, Low: 99}
		holdNodes(t, g, several())
		holdArcs(t, g, several())
	}
	clear(i.Supply[:7])
	i.Supply = i.Supply[:1]
	holdNodes(t, g, several())
	holdArcs(t, g, several())
}

// TestBehindIsNotRead asks of nodes and arcs that lie behind the lists that were handed in.
func TestBehindIsNotRead(t *testing.T) {
	g := adj.New(handed())
	holdNodes(t, g, several())
	holdArcs(t, g, several())
	for _, n := range []int{5, 6} {
		if is := toldBy(g, n); !is.same(told{}) {
			t.Errorf("of the node %d behind the list: %v", n, is)
		}
	}
	for _, a := range []int{7, 8} {
		if arc, ok := g.Arc(a); ok || arc != (api.Arc{}) {
			t.Errorf("of the arc %d behind the list: %v, %v", a, arc, ok)
		}
	}
}

// TestWhatIsToldIsNew changes each list that is told, with what lies behind it: neither the graph nor any other list changes.
func TestWhatIsToldIsNew(t *testing.T) {
	g := adj.New(several())
	for name, call := range lists() {
		for n := range g.Nodes() {
			first, other := call(g, n), call(g, n)
			want := slices.Clone(other)
			spoil(first)
			if !slices.Equal(other, want) {
				t.Errorf("%s of %d, told twice: one list", name, n)
			}
			holdNodes(t, g, several())
			holdArcs(t, g, several())
		}
	}
}

// TestListsAreApart appends to each list that is told: none is a piece of memory that another one lies in.
func TestListsAreApart(t *testing.T) {
	g := adj.New(several())
	for name, call := range lists() {
		for n := range g.Nodes() {
			l := call(g, n)
			_ = append(l, 99, 99, 99)
			if is := toldBy(g, n); !is.same(plainly(several(), n)) {
				t.Errorf("%s of %d, appended to: %v", name, n, is)
			}
		}
	}
	holdNodes(t, g, several())
}

// TestGraphsAreApart asks two graphs by turns: they know nothing of one another.
func TestGraphsAreApart(t *testing.T) {
	first, second, again := adj.New(several()), adj.New(wrong()), adj.New(several())
	for range 2 {
		holdNodes(t, first, several())
		holdNodes(t, second, wrong())
		holdArcs(t, again, several())
		for n := range 5 {
			spoil(again.At(n))
		}
		holdNodes(t, again, several())
		holdArcs(t, second, wrong())
	}
}

// TestAskedAgain asks one graph in many orders: an answer hangs on no call ahead of it.
func TestAskedAgain(t *testing.T) {
	g := adj.New(several())
	for n := range 5 {
		for m := range 5 {
			toldBy(g, m)
			g.Other(m, n)
			g.Arc(m)
			if is := toldBy(g, n); !is.same(plainly(several(), n)) {
				t.Errorf("of the node %d behind %d: %v", n, m, is)
			}
		}
	}
}

// TestAskedByMany asks one graph from several goroutines at once.
func TestAskedByMany(t *testing.T) {
	g := adj.New(several())
	var all sync.WaitGroup
	for range 8 {
		all.Go(func() {
			for n := range 5 {
				if is := toldBy(g, n); !is.same(plainly(several(), n)) {
					t.Errorf("of the node %d: %v", n, is)
				}
			}
		})
	}
	all.Wait()
}
