package reach_test

import (
	"fmt"
	"math"
	"slices"
	"testing"

	"quittance/api"
	"quittance/reach"
)

// of is an instance of so many nodes, and of arcs between them, by their ends.
func of(nodes int, ends ...[2]int) api.Inst {
	i := api.Inst{Supply: make([]int64, nodes)}
	for _, e := range ends {
		i.Arcs = append(i.Arcs, api.Arc{From: e[0], To: e[1], Cap: 1})
	}
	return i
}

// ring is an instance of so many nodes, from each of which an arc goes to the one that lies step further round.
func ring(nodes, step int) api.Inst {
	i := of(nodes)
	for n := range nodes {
		i.Arcs = append(i.Arcs, api.Arc{From: n, To: (n + step) % nodes})
	}
	return i
}

// line is an instance of so many nodes, from each of which an arc goes to the next one.
func line(nodes int) api.Inst {
	i := ring(nodes, 1)
	i.Arcs = i.Arcs[:nodes-1]
	return i
}

// turned is an instance with its nodes in turned order.
func turned(i api.Inst) api.Inst {
	last := len(i.Supply) - 1
	t := of(len(i.Supply))
	for _, a := range i.Arcs {
		a.From, a.To = last-a.From, last-a.To
		t.Arcs = append(t.Arcs, a)
	}
	return t
}

// scattered is an instance of so many nodes and arcs, whose ends lie from one below to one above the nodes.
func scattered(nodes, arcs int) api.Inst {
	i := of(nodes)
	at := uint32(nodes*257 + arcs)
	next := func() int {
		at = at*1664525 + 1013904223
		return int(at>>8)%(nodes+2) - 1
	}
	for range arcs {
		i.Arcs = append(i.Arcs, api.Arc{From: next(), To: next()})
	}
	return i
}

// rising is a scattered instance whose arcs go from lesser nodes to greater ones.
func rising(nodes, arcs int) api.Inst {
	i := scattered(nodes, arcs)
	for k, a := range i.Arcs {
		i.Arcs[k].From, i.Arcs[k].To = min(a.From, a.To), max(a.From, a.To)
	}
	i.Arcs = slices.DeleteFunc(i.Arcs, func(a api.Arc) bool { return a.From == a.To })
	return i
}

// counts says whether both ends of an arc are nodes.
func counts(i api.Inst, a api.Arc) bool {
	return 0 <= a.From && a.From < len(i.Supply) && 0 <= a.To && a.To < len(i.Supply)
}

// comings says of each node plainly to whom it comes: each to itself, and further, arc by arc, till nothing is new.
func comings(i api.Inst) [][]bool {
	comes := make([][]bool, len(i.Supply))
	for n := range comes {
		comes[n] = make([]bool, len(i.Supply))
		comes[n][n] = true
		for more := true; more; {
			more = false
			for _, a := range i.Arcs {
				if counts(i, a) && comes[n][a.From] && !comes[n][a.To] {
					comes[n][a.To], more = true, true
				}
			}
		}
	}
	return comes
}

// plainFrom and plainTo are what From and To have to tell.
func plainFrom(comes [][]bool, some []int) []bool {
	is := make([]bool, len(comes))
	for n := range comes {
		is[n] = slices.ContainsFunc(some, func(s int) bool { return 0 <= s && s < len(comes) && comes[s][n] })
	}
	return is
}

func plainTo(comes [][]bool, some []int) []bool {
	is := make([]bool, len(comes))
	for n := range comes {
		is[n] = slices.ContainsFunc(some, func(s int) bool { return 0 <= s && s < len(comes) && comes[n][s] })
	}
	return is
}

// plainStrong is what Strong has to tell.
func plainStrong(comes [][]bool) []int {
	var l []int
	for n := range comes {
		for m := range comes {
			if comes[n][m] && comes[m][n] {
				l = append(l, m)
				break
			}
		}
	}
	return l
}

// plainBack is what Back has to tell.
func plainBack(i api.Inst, comes [][]bool) []bool {
	var l []bool
	for _, a := range i.Arcs {
		l = append(l, counts(i, a) && comes[a.To][a.From])
	}
	return l
}

// free says whether a node is not told yet, but all that arcs into it are out of.
func free(i api.Inst, told []int, n int) bool {
	waits := func(a api.Arc) bool { return counts(i, a) && a.To == n && !slices.Contains(told, a.From) }
	return !slices.Contains(told, n) && !slices.ContainsFunc(i.Arcs, waits)
}

// plainOrder is what Order has to tell.
func plainOrder(i api.Inst, back []bool) ([]int, bool) {
	if slices.Contains(back, true) {
		return nil, false
	}
	var told []int
	for range i.Supply {
		for n := range i.Supply {
			if free(i, told, n) {
				told = append(told, n)
				break
			}
		}
	}
	return told, true
}

// hold holds what is told of an instance, and of each of several lists of some, against a plain telling.
func hold(t *testing.T, i api.Inst, somes ...[]int) {
	t.Helper()
	comes := comings(i)
	for _, some := range somes {
		if is, want := reach.From(i, some), plainFrom(comes, some); !slices.Equal(is, want) {
			t.Fatalf("From of %v and %v: %v, not %v", i, some, is, want)
		}
		if is, want := reach.To(i, some), plainTo(comes, some); !slices.Equal(is, want) {
			t.Fatalf("To of %v and %v: %v, not %v", i, some, is, want)
		}
	}
	if is, want := reach.Strong(i), plainStrong(comes); !slices.Equal(is, want) {
		t.Fatalf("Strong of %v: %v, not %v", i, is, want)
	}
	back := plainBack(i, comes)
	if is := reach.Back(i); !slices.Equal(is, back) {
		t.Fatalf("Back of %v: %v, not %v", i, is, back)
	}
	want, right := plainOrder(i, back)
	if is, ok := reach.Order(i); ok != right || !slices.Equal(is, want) {
		t.Fatalf("Order of %v: %v, %v, not %v, %v", i, is, ok, want, right)
	}
}

// subsets are all lists of some of so many nodes, each once.
func subsets(nodes int) [][]int {
	all := [][]int{nil}
	for n := range nodes {
		for _, l := range slices.Clone(all) {
			all = append(all, append(slices.Clone(l), n))
		}
	}
	return all
}

// odd are lists of some that tell numbers twice, or fall, or tell numbers that are no nodes.
func odd(nodes int) [][]int {
	last := nodes - 1
	return [][]int{
		{}, {0, 0}, {last, 0, last, last}, {nodes, last, -1}, {-1}, {nodes}, {nodes, nodes, -1, -1, 0},
		{math.MinInt}, {math.MaxInt}, {math.MaxInt, 1 << 32, last, -1 << 32, math.MinInt},
	}
}

// letters are what is told of each, as a text: x where it is so.
func letters(l []bool) string {
	s := ""
	for _, is := range l {
		if is {
			s += "x"
		} else {
			s += "."
		}
	}
	return s
}

func TestExample(t *testing.T) {
	i := of(2, [2]int{0, 1}, [2]int{1, 0})
	if l := reach.Strong(i); !slices.Equal(l, []int{0, 0}) {
		t.Errorf("Strong: %v", l)
	}
	if l := reach.Back(i); !slices.Equal(l, []bool{true, true}) {
		t.Errorf("Back: %v", l)
	}
	if l, ok := reach.Order(i); len(l) != 0 || ok {
		t.Errorf("Order: %v, %v", l, ok)
	}
}

// edges are instances at the edges that the chapter names, with what has to be told of them; from and to are of the node 1.
func edges() []edge {
	none := api.Inst{}
	noNodes := api.Inst{Arcs: []api.Arc{{}, {From: 1}, {From: -1, To: -1}}}
	stray := of(3, [2]int{-1, 0}, [2]int{0, 3}, [2]int{2, 1}, [2]int{3, 3}, [2]int{-1, -1}, [2]int{math.MaxInt, 1}, [2]int{1, math.MinInt}, [2]int{1, 3})
	return []edge{
		{"no nodes", none, "", "", nil, "", nil, true},
		{"no nodes, arcs", noNodes, "", "", nil, "...", nil, true},
		{"one node", of(1), ".", ".", []int{0}, "", []int{0}, true},
		{"one node, a LOOP", of(1, [2]int{0, 0}), ".", ".", []int{0}, "x", nil, false},
		{"no arcs", of(3), ".x.", ".x.", []int{0, 1, 2}, "", []int{0, 1, 2}, true},
		{"an arc", of(2, [2]int{0, 1}), ".x", "xx", []int{0, 1}, ".", []int{0, 1}, true},
		{"an arc to a lesser node", of(2, [2]int{1, 0}), "xx", ".x", []int{0, 1}, ".", []int{1, 0}, true},
		{"a LOOP among arcs", of(3, [2]int{0, 1}, [2]int{1, 1}, [2]int{1, 2}), ".xx", "xx.", []int{0, 1, 2}, ".x.", nil, false},
		{"arcs side by side", of(2, [2]int{0, 1}, [2]int{0, 1}, [2]int{0, 1}), ".x", "xx", []int{0, 1}, "...", []int{0, 1}, true},
		{"arcs side by side, there and back", of(3, [2]int{0, 1}, [2]int{0, 1}, [2]int{1, 0}, [2]int{1, 2}), "xxx", "xx.", []int{0, 0, 2}, "xxx.", nil, false},
		{"a ring", ring(4, 1), "xxxx", "xxxx", []int{0, 0, 0, 0}, "xxxx", nil, false},
		{"two rings", ring(4, 2), ".x.x", ".x.x", []int{0, 1, 0, 1}, "xxxx", nil, false},
		{"two rings, one ahead", of(4, [2]int{2, 3}, [2]int{3, 2}, [2]int{3, 1}, [2]int{1, 0}, [2]int{0, 1}), "xx..", "xxxx", []int{0, 0, 2, 2}, "xx.xx", nil, false},
		{"a line", line(4), ".xxx", "xx..", []int{0, 1, 2, 3}, "...", []int{0, 1, 2, 3}, true},
		{"a line, turned", turned(line(4)), "xx..", ".xxx", []int{0, 1, 2, 3}, "...", []int{3, 2, 1, 0}, true},
		{"a ring behind a line", of(5, [2]int{0, 4}, [2]int{4, 2}, [2]int{2, 3}, [2]int{3, 2}, [2]int{3, 1}), ".x...", "xxxxx", []int{0, 1, 2, 2, 4}, "..xx.", nil, false},
		{"ends that are no nodes", stray, ".x.", ".xx", []int{0, 1, 2}, "........", []int{0, 2, 1}, true},
		{"the least first", of(6, [2]int{5, 0}, [2]int{3, 1}, [2]int{1, 0}, [2]int{1, 4}), "xx..x.", ".x.x..", []int{0, 1, 2, 3, 4, 5}, "....", []int{2, 3, 1, 4, 5, 0}, true},
	}
}

type edge struct {
	name     string
	i        api.Inst
	from, to string
	strong   []int
	back     string
	order    []int
	ok       bool
}

func TestEdges(t *testing.T) {
	for _, e := range edges() {
		from, to, back := letters(reach.From(e.i, []int{1})), letters(reach.To(e.i, []int{1})), letters(reach.Back(e.i))
		if from != e.from || to != e.to || back != e.back {
			t.Errorf("%s: From %s, To %s, Back %s", e.name, from, to, back)
		}
		if l := reach.Strong(e.i); !slices.Equal(l, e.strong) {
			t.Errorf("%s: Strong %v", e.name, l)
		}
		if l, ok := reach.Order(e.i); !slices.Equal(l, e.order) || ok != e.ok {
			t.Errorf("%s: Order %v, %v", e.name, l, ok)
		}
		nodes := len(e.i.Supply)
		hold(t, e.i, append(odd(nodes), subsets(nodes)...)...)
	}
}

func TestSome(t *testing.T) {
	i := of(5, [2]int{0, 1}, [2]int{1, 2}, [2]int{3, 2})
	checks := []struct {
		some     []int
		from, to string
	}{
		{nil, ".....", "....."},
		{[]int{}, ".....", "....."},
		{[]int{0}, "xxx..", "x...."},
		{[]int{2}, "..x..", "xxxx."},
		{[]int{4}, "....x", "....x"},
		{[]int{1, 1, 1}, ".xx..", "xx..."},
		{[]int{4, 3}, "..xxx", "...xx"},
		{[]int{3, 4, 3}, "..xxx", "...xx"},
		{[]int{5}, ".....", "....."},
		{[]int{-1}, ".....", "....."},
		{[]int{math.MinInt, math.MaxInt}, ".....", "....."},
		{[]int{-1, 3, 5}, "..xx.", "...x."},
		{[]int{4, 3, 2, 1, 0}, "xxxxx", "xxxxx"},
	}
	for _, c := range checks {
		if is := letters(reach.From(i, c.some)); is != c.from {
			t.Errorf("From of %v: %s", c.some, is)
		}
		if is := letters(reach.To(i, c.some)); is != c.to {
			t.Errorf("To of %v: %s", c.some, is)
		}
	}
}

// TestOfAll goes through all instances of at most 3 nodes and 3 arcs, whose ends are nodes, or just none.
func TestOfAll(t *testing.T) {
	for nodes := range 4 {
		var arcs []api.Arc
		for from := -1; from <= nodes; from++ {
			for to := -1; to <= nodes; to++ {
				arcs = append(arcs, api.Arc{From: from, To: to})
			}
		}
		somes := append(subsets(nodes), []int{nodes, 0, -1, 0})
		lists := [][]api.Arc{nil}
		for first := 0; first < len(lists); first++ {
			l := lists[first]
			hold(t, api.Inst{Supply: make([]int64, nodes), Arcs: l}, somes...)
			if len(l) == 3 {
				continue
			}
			for _, a := range arcs {
				lists = append(lists, append(slices.Clone(l), a))
			}
		}
	}
}

// TestOfAllWays goes through all instances of 4 nodes with an arc, or none, from each to each, and a LOOP at most at the last one.
func TestOfAllWays(t *testing.T) {
	const loops = 1 | 1<<5 | 1<<10
	for set := range 1 << 16 {
		if set&loops != 0 {
			continue
		}
		i := of(4)
		for k := range 16 {
			if set>>k&1 == 1 {
				i.Arcs = append(i.Arcs, api.Arc{From: k / 4, To: k % 4})
			}
		}
		hold(t, i, []int{set % 4}, []int{set / 16 % 4, set / 1024 % 4})
	}
}

func TestOfMany(t *testing.T) {
	for _, s := range [][2]int{{1, 256}, {2, 256}, {5, 40}, {7, 9}, {20, 25}, {64, 0}, {64, 63}, {64, 80}, {64, 120}, {64, 256}} {
		for _, i := range []api.Inst{scattered(s[0], s[1]), rising(s[0], s[1]), turned(rising(s[0], s[1]))} {
			hold(t, i, []int{0}, []int{s[0] - 1, s[0] / 2, s[0]}, nil)
		}
	}
	for arcs := range 40 {
		hold(t, scattered(12, arcs), []int{arcs % 12}, []int{3, arcs})
		hold(t, rising(12, arcs), []int{arcs % 12}, []int{3, arcs})
	}
	for _, i := range []api.Inst{ring(64, 1), ring(64, 63), ring(64, 16), ring(64, 24), line(64), turned(line(64))} {
		hold(t, i, []int{0}, []int{63}, []int{31, 17})
	}
	// More nodes and arcs than an instance may have that is right.
	for _, i := range []api.Inst{scattered(65, 257), scattered(100, 300), rising(90, 400), ring(130, 30)} {
		hold(t, i, []int{0}, []int{64, 65, 1 << 20})
	}
}

// TestOfVeryMany goes far: what is told takes no more time than there are nodes and arcs, and no nesting.
func TestOfVeryMany(t *testing.T) {
	const nodes = 200000
	l, r := line(nodes), ring(nodes, 1)
	for name, i := range map[string]api.Inst{"a line": l, "a ring": r} {
		if is := reach.From(i, []int{0}); len(is) != nodes || slices.Contains(is, false) {
			t.Errorf("From of the first of %s: not all", name)
		}
		if is := reach.To(i, []int{nodes - 1}); len(is) != nodes || slices.Contains(is, false) {
			t.Errorf("To of the last of %s: not all", name)
		}
	}
	own := make([]int, nodes)
	for n := range own {
		own[n] = n
	}
	if is := reach.Strong(l); !slices.Equal(is, own) {
		t.Error("Strong of a line: not each its own")
	}
	if is := reach.Strong(r); !slices.Equal(is, make([]int, nodes)) {
		t.Error("Strong of a ring: not the first of all")
	}
	if is := reach.Back(l); len(is) != nodes-1 || slices.Contains(is, true) {
		t.Error("Back of a line: some")
	}
	if is := reach.Back(r); len(is) != nodes || slices.Contains(is, false) {
		t.Error("Back of a ring: not all")
	}
	if is, ok := reach.Order(l); !ok || !slices.Equal(is, own) {
		t.Error("Order of a line: not as it goes")
	}
	if is, ok := reach.Order(r); ok || len(is) != 0 {
		t.Error("Order of a ring: one")
	}
	if is, ok := reach.Order(of(nodes)); !ok || !slices.Equal(is, own) {
		t.Error("Order of no arcs: not the least first")
	}
}

// TestComesFurther looks whether who comes to whom comes further, whether From and To tell the same, and whether some are all of each.
func TestComesFurther(t *testing.T) {
	for _, i := range []api.Inst{scattered(30, 25), scattered(30, 35), scattered(40, 60), rising(30, 60), ring(30, 12), line(30)} {
		nodes := len(i.Supply)
		var from, to [][]bool
		for n := range nodes {
			from, to = append(from, reach.From(i, []int{n})), append(to, reach.To(i, []int{n}))
			if !from[n][n] || !to[n][n] {
				t.Errorf("of %v: %d does not come to itself", i, n)
			}
		}
		strong := reach.Strong(i)
		for a := range nodes {
			all := reach.From(i, []int{a, 7})
			for b := range nodes {
				if from[a][b] != to[b][a] || all[b] != (from[a][b] || from[7][b]) {
					t.Errorf("of %v: whether %d comes to %d is told otherwise", i, a, b)
				}
				if (strong[a] == strong[b]) != (from[a][b] && from[b][a]) {
					t.Errorf("of %v: Strong of %d and %d: %d, %d", i, a, b, strong[a], strong[b])
				}
				for c := range nodes {
					if from[a][b] && from[b][c] && !from[a][c] {
						t.Errorf("of %v: %d comes to %d, and that to %d, but no further", i, a, b, c)
					}
				}
			}
		}
	}
}

// TestOrderGoesAsArcsGo looks whether an Order tells each node once, and each arc's From ahead of its To.
func TestOrderGoesAsArcsGo(t *testing.T) {
	for _, i := range []api.Inst{rising(64, 256), turned(line(64)), rising(64, 40), rising(9, 100)} {
		order, ok := reach.Order(i)
		if l := slices.Sorted(slices.Values(order)); !ok || len(l) != len(i.Supply) || len(slices.Compact(l)) != len(l) {
			t.Errorf("Order of %v: %v, %v", i, order, ok)
		}
		for _, a := range i.Arcs {
			if counts(i, a) && slices.Index(order, a.From) > slices.Index(order, a.To) {
				t.Errorf("Order of %v: %v, but %v", i, order, a)
			}
		}
		i.Arcs = append(i.Arcs, api.Arc{From: order[len(order)-1], To: order[len(order)-1]})
		if l, ok := reach.Order(i); ok || len(l) != 0 {
			t.Errorf("Order of %v: %v, %v", i, l, ok)
		}
	}
}

// toldOf is all that is told of an instance, as a text.
func toldOf(i api.Inst, some []int) string {
	order, ok := reach.Order(i)
	return fmt.Sprint(reach.From(i, some), reach.To(i, some), reach.Strong(i), reach.Back(i), order, ok)
}

// TestOnlyEndsCount changes bounds, costs and Supplies to right ones and to wrong ones: the same is told.
func TestOnlyEndsCount(t *testing.T) {
	numbers := []int64{0, 1, -1, api.MaxNum, -api.MaxNum, api.Inf, math.MaxInt64, math.MinInt64}
	for _, i := range []api.Inst{scattered(9, 12), scattered(9, 30), rising(9, 12), ring(5, 2), line(6)} {
		some := []int{2, 9, 1}
		want := toldOf(i, some)
		for shift := range numbers {
			other := api.Inst{Supply: slices.Clone(i.Supply), Arcs: slices.Clone(i.Arcs)}
			number := func(k int) int64 { return numbers[(k+shift)%len(numbers)] }
			for n := range other.Supply {
				other.Supply[n] = number(n)
			}
			for k := range other.Arcs {
				other.Arcs[k].Low, other.Arcs[k].Cap, other.Arcs[k].Cost = number(k), number(2*k+1), number(3*k+2)
			}
			if is := toldOf(other, some); is != want {
				t.Errorf("of %v: %s, not %s", other, is, want)
			}
		}
	}
}
