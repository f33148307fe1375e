package file_test

import (
	"math"
	"slices"
	"strings"
	"testing"

	"quittance/api"
	"quittance/file"
	"quittance/inst"
)

const (
	inf   = 1 << 62
	mostN = 1 << 31
)

// cheap is a problem of min: of two nodes, and of some arcs.
func cheap(arcs ...api.Arc) api.Prob {
	return api.Prob{Inst: api.Inst{Supply: []int64{3, -3}, Arcs: arcs}}
}

// most is a problem of max: of three nodes, and of some arcs.
func most(arcs ...api.Arc) api.Prob {
	return api.Prob{Max: true, S: 2, T: 0, Inst: api.Inst{Supply: make([]int64, 3), Arcs: arcs}}
}

// supplies is a problem of some.
func supplies(l ...int64) api.Prob { return api.Prob{Inst: api.Inst{Supply: l}} }

// sized is a problem of so many nodes and arcs.
func sized(max bool, nodes, arcs int) api.Prob {
	p := api.Prob{Max: max, Inst: api.Inst{Supply: make([]int64, nodes), Arcs: make([]api.Arc, arcs)}}
	if max {
		p.T = 1
	}
	return p
}

// between is a problem of max from one node to another, where there are so many.
func between(nodes, s, t int) api.Prob {
	return api.Prob{Max: true, S: s, T: t, Inst: api.Inst{Supply: make([]int64, nodes)}}
}

func TestPrint(t *testing.T) {
	checks := []struct {
		name string
		p    api.Prob
		s    string
	}{
		{"one node", supplies(0), "p min 1 0\n"},
		{"empty arcs", api.Prob{Inst: api.Inst{Supply: []int64{0}, Arcs: []api.Arc{}}}, "p min 1 0\n"},
		{"some Supplies 0", supplies(0, 4, 0, -5, 1, 0), "p min 6 0\nn 2 4\nn 4 -5\nn 5 1\n"},
		{"great Supplies", supplies(mostN, -mostN), "p min 2 0\nn 1 2147483648\nn 2 -2147483648\n"},
		{
			"arcs in order",
			cheap(api.Arc{From: 1, To: 0, Low: 2, Cap: 9, Cost: -4}, api.Arc{From: 0, To: 1, Cap: inf, Cost: 5}, api.Arc{From: 1, To: 1}, api.Arc{From: 0, To: 1, Cap: inf, Cost: 5}),
			"p min 2 4\nn 1 3\nn 2 -3\na 2 1 2 9 -4\na 1 2 0 -1 5\na 2 2 0 0 0\na 1 2 0 -1 5\n",
		},
		{
			"great numbers",
			cheap(api.Arc{To: 1, Low: mostN, Cap: mostN, Cost: mostN}, api.Arc{To: 1, Low: mostN, Cap: inf, Cost: -mostN}),
			"p min 2 2\nn 1 3\nn 2 -3\na 1 2 2147483648 2147483648 2147483648\na 1 2 2147483648 -1 -2147483648\n",
		},
		{"max", most(), "p max 3 0\nn 3 s\nn 1 t\n"},
		{"s behind t, and ahead of it", between(2, 0, 1), "p max 2 0\nn 1 s\nn 2 t\n"},
		{"the last nodes", between(64, 63, 62), "p max 64 0\nn 64 s\nn 63 t\n"},
		{
			"arcs of max",
			most(api.Arc{From: 2, To: 0, Cap: 8}, api.Arc{From: 1, To: 1, Cap: inf}, api.Arc{From: 0, To: 2}, api.Arc{From: 2, To: 0, Cap: mostN}),
			"p max 3 4\nn 3 s\nn 1 t\na 3 1 8\na 2 2 -1\na 1 3 0\na 3 1 2147483648\n",
		},
		{"all there may be", sized(false, 64, 256), "p min 64 256\n" + strings.Repeat("a 1 1 0 0 0\n", 256)},
		{"all there may be of max", sized(true, 64, 256), "p max 64 256\nn 1 s\nn 2 t\n" + strings.Repeat("a 1 1 0\n", 256)},
	}
	for _, c := range checks {
		if s, wrong := file.Print(c.p); s != c.s || wrong != api.OK {
			t.Errorf("Print of %s: %q, %d", c.name, s, wrong)
		}
		if p, wrong, line := file.Parse(c.s); !same(p, c.p) || wrong != api.OK || line != 0 {
			t.Errorf("Parse of %s: %v, %d, %d", c.name, p, wrong, line)
		}
	}
}

// refused are problems that no file tells, by what is wrong.
func refused() map[string]api.Prob {
	with := func(p api.Prob, change func(p *api.Prob)) api.Prob {
		change(&p)
		return p
	}
	return map[string]api.Prob{
		"nothing":          {},
		"nothing of max":   {Max: true},
		"no node":          {Inst: api.Inst{Supply: []int64{}}},
		"no node, S and T": {Max: true, T: 1},
		"65 nodes":         sized(false, 65, 0),
		"257 arcs":         sized(false, 64, 257),
		"65 nodes of max":  sized(true, 65, 0),
		"257 arcs of max":  sized(true, 64, 257),
		"very many":        sized(false, 1<<20, 1<<20),
		"one node of max":  between(1, 0, 0),
		// What inst.Right refuses.
		"an end below":       cheap(api.Arc{From: -1, To: 0}),
		"an end above":       cheap(api.Arc{From: 0, To: 2}),
		"an end far above":   cheap(api.Arc{From: math.MaxInt, To: math.MinInt}),
		"Low below 0":        cheap(api.Arc{Low: -1, Cap: 5}),
		"Low far below":      cheap(api.Arc{Low: math.MinInt64, Cap: inf}),
		"Low above Cap":      cheap(api.Arc{Low: 6, Cap: 5}),
		"Cap -1":             cheap(api.Arc{Cap: -1}),
		"Cap -1 of max":      most(api.Arc{Cap: -1}),
		"Cap below Inf":      cheap(api.Arc{Cap: inf - 1}),
		"Cap above Inf":      cheap(api.Arc{Cap: inf + 1}),
		"Cap far above":      cheap(api.Arc{Cap: math.MaxInt64}),
		"Cost far below":     cheap(api.Arc{Cost: math.MinInt64}),
		"sum 1":              supplies(3, -2),
		"sum goes round":     supplies(math.MinInt64, math.MinInt64),
		"great Supplies":     supplies(1<<62, -1<<62),
		"sum of one of many": supplies(1, 0, 0, -2),
		// What it takes, and a file may not have.
		"Supply above":       supplies(mostN+1, -mostN-1),
		"Supply above alone": supplies(mostN+1, -mostN, -1),
		"Supply below alone": supplies(1, mostN, -mostN-1),
		"Supply of 2^42":     supplies(1<<42, -1<<42),
		"Low above":          cheap(api.Arc{Low: mostN + 1, Cap: mostN + 1}),
		"Low above, Inf":     cheap(api.Arc{Low: mostN + 1, Cap: inf}),
		"Low of 2^42":        cheap(api.Arc{Low: 1 << 42, Cap: inf}),
		"Cap above":          cheap(api.Arc{Cap: mostN + 1}),
		"Cap of 2^42":        cheap(api.Arc{Cap: 1 << 42}),
		"Cost above":         cheap(api.Arc{Cost: mostN + 1}),
		"Cost below":         cheap(api.Arc{Cost: -mostN - 1}),
		"the last arc":       cheap(api.Arc{}, api.Arc{}, api.Arc{Cost: mostN + 1}),
		"Cap above of max":   most(api.Arc{Cap: mostN + 1}),
		"the last of max":    most(api.Arc{}, api.Arc{Cap: inf}, api.Arc{Cap: 1 << 42}),
		// What one of max may not have.
		"Supplies of max":    with(most(), func(p *api.Prob) { p.Inst.Supply = []int64{0, 1, -1} }),
		"Low of max":         most(api.Arc{Low: 1, Cap: 1}),
		"Low of max, Inf":    most(api.Arc{}, api.Arc{Low: 1, Cap: inf}),
		"Cost of max":        most(api.Arc{Cap: 1, Cost: 1}),
		"Cost below of max":  most(api.Arc{Cap: 1}, api.Arc{Cap: 1, Cost: -1}),
		"S and T the same":   between(3, 1, 1),
		"S and T both first": between(3, 0, 0),
		"S below":            between(3, -1, 1),
		"S above":            between(3, 3, 1),
		"T below":            between(3, 1, -1),
		"T above":            between(3, 1, 3),
		"S and T far away":   between(3, math.MaxInt, math.MinInt),
		"T and S far away":   between(3, math.MinInt, math.MaxInt),
		// What another one may not have.
		"S of min":              with(cheap(), func(p *api.Prob) { p.S = 1 }),
		"T of min":              with(cheap(), func(p *api.Prob) { p.T = 1 }),
		"S and T of min":        with(cheap(), func(p *api.Prob) { p.S, p.T = 1, 1 }),
		"S below of min":        with(cheap(), func(p *api.Prob) { p.S = -1 }),
		"T far away of min":     with(cheap(), func(p *api.Prob) { p.T = math.MinInt }),
		"a max that is not Max": with(most(), func(p *api.Prob) { p.Max = false }),
	}
}

func TestPrintRefuses(t *testing.T) {
	for name, p := range refused() {
		if s, wrong := file.Print(p); s != "" || wrong != api.ErrArg {
			t.Errorf("Print of %s: %.100q, %d", name, s, wrong)
		}
	}
}

// values are some at the bounds, and beyond.
var values = []int64{-1 << 42, -mostN - 1, -mostN, -1, 0, 1, mostN, mostN + 1, 1 << 42, inf, math.MaxInt64, math.MinInt64}

// may says by the chapter's words whether a file of max, or of min, has an arc like that between two of its nodes.
func may(max bool, a api.Arc) bool {
	low, cost := a.Low >= 0 && a.Low <= mostN, a.Cost >= -mostN && a.Cost <= mostN
	if max {
		low, cost = a.Low == 0, a.Cost == 0
	}
	return low && cost && (a.Cap == inf || a.Cap >= a.Low && a.Cap <= mostN)
}

// TestPrintOfAllArcs holds problems of each kind of arc: they are refused, or there and back.
func TestPrintOfAllArcs(t *testing.T) {
	for _, low := range values {
		for _, most := range values {
			for _, cost := range values {
				for _, max := range []bool{false, true} {
					p := sized(max, 3, 1)
					p.Inst.Arcs[0] = api.Arc{From: 1, To: 2, Low: low, Cap: most, Cost: cost}
					if may(max, p.Inst.Arcs[0]) {
						back(t, p)
					} else if s, wrong := file.Print(p); s != "" || wrong != api.ErrArg {
						t.Errorf("Print of %v: %q, %d", p, s, wrong)
					}
				}
			}
		}
	}
}

// back holds what Print tells of a problem: Parse reads the same there, and Print tells it again.
func back(t *testing.T, p api.Prob) {
	t.Helper()
	s, wrong := file.Print(p)
	if wrong != api.OK || len(s) > 60000 || !strings.HasSuffix(s, "\n") {
		t.Errorf("Print of %v: %q, %d", p, s, wrong)
	}
	is, wrong, line := file.Parse(s)
	if !same(is, p) || wrong != api.OK || line != 0 {
		t.Errorf("Parse of what is printed of %v: %v, %d, %d", p, is, wrong, line)
	}
	if inst.Right(is.Inst) != api.OK {
		t.Errorf("what is parsed of %q is not right", s)
	}
	if again, wrong := file.Print(is); again != s || wrong != api.OK {
		t.Errorf("printed again: %q, %d, not %q", again, wrong, s)
	}
	holds(t, s)
}

// scattered is a problem of so many nodes and arcs, whose numbers lie anywhere where a file may have them.
func scattered(max bool, nodes, arcs int) api.Prob {
	at := uint64(nodes*1009 + arcs)
	next := func(many int64) int64 {
		at = at*6364136223846793005 + 1442695040888963407
		return int64(at>>20) % many
	}
	p := api.Prob{Max: max, Inst: api.Inst{Supply: make([]int64, nodes)}}
	var sum int64
	for n := range p.Inst.Supply[1:] {
		if most := mostN >> 6; !max && next(4) > 0 {
			p.Inst.Supply[n+1] = next(int64(2*most+1)) - int64(most)
			sum += p.Inst.Supply[n+1]
		}
	}
	p.Inst.Supply[0] = -sum
	if max {
		p.S = int(next(int64(nodes)))
		p.T = (p.S + 1 + int(next(int64(nodes-1)))) % nodes
	}
	for range arcs {
		a := api.Arc{From: int(next(int64(nodes))), To: int(next(int64(nodes))), Cap: next(mostN + 1)}
		if !max {
			a.Low, a.Cost = next(a.Cap+1), next(2*mostN+1)-mostN
		}
		if next(3) == 0 {
			a.Cap = inf
		}
		p.Inst.Arcs = append(p.Inst.Arcs, a)
	}
	return p
}

func TestThereAndBack(t *testing.T) {
	for _, max := range []bool{false, true} {
		for _, nodes := range []int{2, 3, 10, 33, 63, 64} {
			for _, arcs := range []int{0, 1, 2, 9, 100, 255, 256} {
				back(t, scattered(max, nodes, arcs))
			}
		}
	}
	back(t, supplies(0))
	long := sized(false, 64, 256)
	for n := range long.Inst.Supply {
		long.Inst.Supply[n] = int64(n%2*2-1) * mostN
	}
	for a := range long.Inst.Arcs {
		long.Inst.Arcs[a] = api.Arc{From: 63, To: 62, Low: mostN, Cap: mostN, Cost: -mostN}
	}
	back(t, long)
}

// TestBackAndThere prints what was parsed: the file's own lines, but for those that tell nothing, or that a node has 0, and the order of n.
func TestBackAndThere(t *testing.T) {
	checks := []string{
		"p min 3 2\nn 1 7\nn 3 -7\na 1 3 2 9 -4\na 2 2 0 0 0\n",
		"p max 4 3\nn 4 s\nn 2 t\na 4 2 8\na 1 1 -1\na 3 4 0\n",
		"p min 64 0\n",
	}
	for _, s := range checks {
		l := strings.Split(strings.TrimSuffix(s, "\n"), "\n")
		less := slices.Insert(slices.Clone(l), 1, "c n", "c")
		if s[2:5] == "min" {
			less = slices.Insert(less, 2, "n 2 0")
		}
		for _, l := range [][]string{l, less} {
			p, _, _ := file.Parse(strings.Join(l, "\n"))
			if is, wrong := file.Print(p); is != s || wrong != api.OK {
				t.Errorf("Print of what is parsed of %q: %q, %d", l, is, wrong)
			}
		}
	}
}
