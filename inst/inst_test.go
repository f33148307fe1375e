package inst_test

import (
	"math"
	"slices"
	"testing"

	"quittance/api"
	"quittance/inst"
)

// fine is an arc between the nodes 0 and 1 in which nothing is wrong.
var fine = api.Arc{From: 0, To: 1, Low: 1, Cap: 2, Cost: 3}

// of is an instance of two nodes and some arcs.
func of(arcs ...api.Arc) api.Inst {
	return api.Inst{Supply: []int64{1, -1}, Arcs: arcs}
}

// sized is an instance of so many nodes and arcs, in which nothing else is wrong, if it has a node.
func sized(nodes, arcs int) api.Inst {
	return api.Inst{Supply: make([]int64, nodes), Arcs: make([]api.Arc, arcs)}
}

// several is an instance with LOOPS, twins, and all fields of many values.
func several() api.Inst {
	return api.Inst{
		Supply: []int64{5, -7, 0, 2},
		Arcs: []api.Arc{
			{From: 0, To: 1, Low: 1, Cap: 2, Cost: 3},
			{From: 1, To: 1, Low: 0, Cap: api.Inf, Cost: -4},
			{From: 3, To: 2, Low: 5, Cap: 5, Cost: 6},
			{From: 0, To: 1, Low: 1, Cap: 2, Cost: 3},
			{From: 2, To: 0, Low: 0, Cap: 0, Cost: 0},
			{From: 3, To: 3, Low: 8, Cap: 9, Cost: 10},
		},
	}
}

// wrong is an instance of which much is wrong: its arcs have ends that are no nodes.
func wrong() api.Inst {
	return api.Inst{
		Supply: []int64{math.MaxInt64, math.MinInt64, 9},
		Arcs: []api.Arc{
			{From: -1, To: 0, Low: math.MinInt64, Cap: math.MinInt64, Cost: math.MinInt64},
			{From: 0, To: 3, Low: 4},
			{From: 2, To: 1, Low: -4, Cap: -5, Cost: math.MaxInt64},
			{From: math.MaxInt, To: math.MinInt},
			{From: math.MinInt, To: 1},
			{From: 1, To: math.MaxInt},
			{From: 3, To: 3},
			{From: 1, To: 1, Low: 7, Cap: 6},
		},
	}
}

// subsets are all lists of n marks.
func subsets(n int) [][]bool {
	all := [][]bool{nil}
	for range n {
		var more [][]bool
		for _, l := range all {
			more = append(more, append(slices.Clone(l), false), append(slices.Clone(l), true))
		}
		all = more
	}
	return all
}

func TestRightAtEdges(t *testing.T) {
	const most = 1 << 42
	checks := []struct {
		name  string
		i     api.Inst
		wrong api.Errno
	}{
		{"nothing", api.Inst{}, api.OK},
		{"empty lists", api.Inst{Supply: []int64{}, Arcs: []api.Arc{}}, api.OK},
		{"no arcs", of(), api.OK},
		{"the chapter's example", of(api.Arc{From: 0, To: 1, Low: 0, Cap: 2}), api.OK},
		{"the chapter's example, of Cap -1", of(api.Arc{From: 0, To: 1, Low: 0, Cap: -1}), api.ErrBound},
		{"several", several(), api.OK},
		{"wrong", wrong(), api.ErrNode},
		{"64 nodes", sized(64, 0), api.OK},
		{"65 nodes", sized(65, 0), api.ErrMany},
		{"66 nodes", sized(66, 0), api.ErrMany},
		{"256 arcs", sized(1, 256), api.OK},
		{"257 arcs", sized(1, 257), api.ErrMany},
		{"256 arcs of no node", sized(0, 256), api.ErrNode},
		{"257 arcs of no node", sized(0, 257), api.ErrMany},
		{"64 nodes, 256 arcs", sized(64, 256), api.OK},
		{"65 nodes, 256 arcs", sized(65, 256), api.ErrMany},
		{"64 nodes, 257 arcs", sized(64, 257), api.ErrMany},
		{"an arc, no node", api.Inst{Arcs: []api.Arc{{}}}, api.ErrNode},
		{"a LOOP", of(api.Arc{From: 1, To: 1, Cap: 1}), api.OK},
		{"twins", of(fine, fine), api.OK},
		{"an arc back", of(api.Arc{From: 1, To: 0}), api.OK},
		{"Supply of 2^42", api.Inst{Supply: []int64{most, -most}}, api.OK},
		{"Supply beyond 2^42", api.Inst{Supply: []int64{most + 1, -most, -1}}, api.ErrSupply},
		{"Supply beyond -2^42", api.Inst{Supply: []int64{1, most, -most - 1}}, api.ErrSupply},
		{"Supply beyond both", api.Inst{Supply: []int64{-most - 1, most + 1}}, api.ErrSupply},
		{"Supply of -2^63", api.Inst{Supply: []int64{math.MinInt64, math.MinInt64}}, api.ErrSupply},
		{"Supply of 2^63 - 1", api.Inst{Supply: []int64{math.MaxInt64, -math.MaxInt64}}, api.ErrSupply},
		{"Supplies that go round to 0", api.Inst{Supply: []int64{1 << 62, 1 << 62, 1 << 62, 1 << 62}}, api.ErrSupply},
		{"one Supply of 0", api.Inst{Supply: []int64{0}}, api.OK},
		{"a sum of 1", api.Inst{Supply: []int64{1}}, api.ErrSum},
		{"a sum of -1", api.Inst{Supply: []int64{2, 0, -3}}, api.ErrSum},
		{"a sum of 2^42", api.Inst{Supply: []int64{most}}, api.ErrSum},
		{"a sum of 2^32", api.Inst{Supply: []int64{1 << 32}}, api.ErrSum},
		{"the greatest sum", api.Inst{Supply: slices.Repeat([]int64{most}, 64)}, api.ErrSum},
		{"the least sum", api.Inst{Supply: slices.Repeat([]int64{-most}, 64)}, api.ErrSum},
		{"great ones, a sum of 0", api.Inst{Supply: slices.Repeat([]int64{most, -most}, 32)}, api.OK},
		{"Supplies of 0 together without their order", api.Inst{Supply: []int64{-1, 3, -2}}, api.OK},
	}
	for _, c := range checks {
		if told := inst.Right(c.i); told != c.wrong {
			t.Errorf("Right of %s: %d", c.name, told)
		}
	}
}

// TestRightOfEachNode looks for ends that are nodes, and that are not, where there are some nodes.
func TestRightOfEachNode(t *testing.T) {
	ends := []int{0, 1, 2, 3, 62, 63, 64, 65, -1, -2, -64, 1 << 32, -1 << 32, math.MaxInt, math.MinInt}
	for _, nodes := range []int{0, 1, 2, 3, 63, 64} {
		for _, from := range ends {
			for _, to := range ends {
				i := sized(nodes, 0)
				i.Arcs = []api.Arc{{From: from, To: to}}
				want := api.ErrNode
				if 0 <= from && from < nodes && 0 <= to && to < nodes {
					want = api.OK
				}
				if told := inst.Right(i); told != want {
					t.Errorf("Right of %d nodes, an arc from %d to %d: %d", nodes, from, to, told)
				}
			}
		}
	}
}

func TestRightOfBounds(t *testing.T) {
	const most = 1 << 42
	checks := []struct {
		low, limit int64
		wrong      api.Errno
	}{
		{0, 0, api.OK},
		{0, 1, api.OK},
		{1, 1, api.OK},
		{1, 0, api.ErrBound},
		{2, 1, api.ErrBound},
		{0, -1, api.ErrBound},
		{-1, -1, api.ErrBound},
		{-1, 0, api.ErrBound},
		{-1, 5, api.ErrBound},
		{-2, -1, api.ErrBound},
		{0, most, api.OK},
		{0, most + 1, api.ErrBound},
		{most - 1, most, api.OK},
		{most, most, api.OK},
		{most, most - 1, api.ErrBound},
		{most, most + 1, api.ErrBound},
		{most + 1, most, api.ErrBound},
		{most + 1, most + 1, api.ErrBound},
		{most + 1, most + 2, api.ErrBound},
		{0, api.Inf, api.OK},
		{1, api.Inf, api.OK},
		{most, api.Inf, api.OK},
		{most + 1, api.Inf, api.ErrBound},
		{-1, api.Inf, api.ErrBound},
		{0, api.Inf - 1, api.ErrBound},
		{0, api.Inf + 1, api.ErrBound},
		{0, -api.Inf, api.ErrBound},
		{api.Inf, api.Inf, api.ErrBound},
		{0, math.MaxInt64, api.ErrBound},
		{0, math.MinInt64, api.ErrBound},
		{math.MinInt64, 0, api.ErrBound},
		{math.MinInt64, math.MinInt64, api.ErrBound},
		{math.MinInt64, api.Inf, api.ErrBound},
		{math.MaxInt64, math.MaxInt64, api.ErrBound},
		{math.MaxInt64, api.Inf, api.ErrBound},
		{-1 << 32, 0, api.ErrBound},
		{0, -1 << 32, api.ErrBound},
	}
	for _, c := range checks {
		i := of(fine, api.Arc{From: 0, To: 1, Low: c.low, Cap: c.limit})
		if told := inst.Right(i); told != c.wrong {
			t.Errorf("Right of Low %d, Cap %d: %d", c.low, c.limit, told)
		}
	}
}

func TestRightOfCosts(t *testing.T) {
	const most = 1 << 42
	checks := []struct {
		cost  int64
		wrong api.Errno
	}{
		{0, api.OK},
		{1, api.OK},
		{-1, api.OK},
		{most, api.OK},
		{-most, api.OK},
		{most + 1, api.ErrCost},
		{-most - 1, api.ErrCost},
		{api.Inf, api.ErrCost},
		{-api.Inf, api.ErrCost},
		{math.MaxInt64, api.ErrCost},
		{math.MinInt64, api.ErrCost},
	}
	for _, c := range checks {
		i := of(fine, api.Arc{From: 0, To: 1, Cost: c.cost})
		if told := inst.Right(i); told != c.wrong {
			t.Errorf("Right of Cost %d: %d", c.cost, told)
		}
	}
}

// faults are what can be wrong with an instance of two nodes and two arcs, in the chapter's order: each leaves what another one did.
func faults() []struct {
	wrong api.Errno
	spoil func(i *api.Inst)
} {
	return []struct {
		wrong api.Errno
		spoil func(i *api.Inst)
	}{
		{api.ErrMany, func(i *api.Inst) { i.Supply = append(i.Supply, make([]int64, 63)...) }},
		{api.ErrMany, func(i *api.Inst) { i.Arcs = append(i.Arcs, make([]api.Arc, 255)...) }},
		{api.ErrNode, func(i *api.Inst) { i.Arcs[1].From = 99 }},
		{api.ErrNode, func(i *api.Inst) { i.Arcs[1].To = -1 }},
		{api.ErrBound, func(i *api.Inst) { i.Arcs[1].Low = -1 }},
		{api.ErrBound, func(i *api.Inst) { i.Arcs[1].Cap = 0 }},
		{api.ErrCost, func(i *api.Inst) { i.Arcs[1].Cost = api.Inf }},
		{api.ErrSupply, func(i *api.Inst) { i.Supply[0], i.Supply[1] = 1<<42+1, -1<<42-1 }},
		{api.ErrSum, func(i *api.Inst) { i.Supply[1]++ }},
	}
}

func TestRightTellsTheFirst(t *testing.T) {
	for a, first := range faults() {
		for _, second := range faults()[a:] {
			i := of(fine, fine)
			second.spoil(&i)
			first.spoil(&i)
			if told := inst.Right(i); told != first.wrong {
				t.Errorf("Right of what is wrong by %d, and by %d: %d", first.wrong, second.wrong, told)
			}
		}
	}
}

// TestRightTellsTheFirstArc lays one fault on each of two arcs: the lesser arc's is told, whichever it is.
func TestRightTellsTheFirstArc(t *testing.T) {
	spoilt := map[api.Errno]api.Arc{
		api.ErrNode:  {From: 2, To: 1},
		api.ErrBound: {From: 0, To: 1, Low: 2, Cap: 1},
		api.ErrCost:  {From: 0, To: 1, Cost: -1<<42 - 1},
	}
	for first, a := range spoilt {
		for second, b := range spoilt {
			if told := inst.Right(of(fine, a, fine, b, fine)); told != first {
				t.Errorf("Right of an arc wrong by %d ahead of one wrong by %d: %d", first, second, told)
			}
		}
	}
}

// TestRightOfTheLast looks for what is wrong at the end of the greatest instance.
func TestRightOfTheLast(t *testing.T) {
	i := sized(64, 256)
	i.Arcs[255] = api.Arc{From: 63, To: 63, Low: 3, Cap: 2}
	if told := inst.Right(i); told != api.ErrBound {
		t.Errorf("Right of 256 arcs, the last of Low 3, Cap 2: %d", told)
	}
	i.Arcs[255].Cap = 3
	i.Supply[63] = -1<<42 - 1
	if told := inst.Right(i); told != api.ErrSupply {
		t.Errorf("Right of 64 nodes, the last of Supply -2^42 - 1: %d", told)
	}
	i.Supply[63] = -1
	if told := inst.Right(i); told != api.ErrSum {
		t.Errorf("Right of 64 nodes, the last of Supply -1: %d", told)
	}
	i.Supply[0] = 1
	if told := inst.Right(i); told != api.OK {
		t.Errorf("Right of 64 nodes and 256 arcs: %d", told)
	}
}

func TestSame(t *testing.T) {
	for _, i := range []api.Inst{{}, of(), of(fine), several(), wrong(), sized(70, 300)} {
		again := api.Inst{Supply: append([]int64{}, i.Supply...), Arcs: append([]api.Arc{}, i.Arcs...)}
		if !inst.Same(i, i) || !inst.Same(i, again) || !inst.Same(again, i) {
			t.Errorf("Same of %v and itself: false", i)
		}
	}
	if !inst.Same(api.Inst{}, api.Inst{Supply: []int64{}, Arcs: []api.Arc{}}) || !inst.Same(api.Inst{Arcs: []api.Arc{}}, api.Inst{Supply: []int64{}}) {
		t.Error("Same of nil and empty lists: false")
	}
}

func TestSameOfEachField(t *testing.T) {
	changes := []func(i *api.Inst){
		func(i *api.Inst) { i.Supply[0]++ },
		func(i *api.Inst) { i.Supply[3]-- },
		func(i *api.Inst) { i.Supply[0] += 1 << 32 },
		func(i *api.Inst) { i.Supply[0], i.Supply[1] = i.Supply[1], i.Supply[0] },
		func(i *api.Inst) { i.Supply = i.Supply[:3] },
		func(i *api.Inst) { i.Supply = append(i.Supply, 0) },
		func(i *api.Inst) { i.Supply = nil },
		func(i *api.Inst) { i.Arcs[0].From = 1 },
		func(i *api.Inst) { i.Arcs[0].To = 0 },
		func(i *api.Inst) { i.Arcs[0].Low = 0 },
		func(i *api.Inst) { i.Arcs[0].Cap = 3 },
		func(i *api.Inst) { i.Arcs[0].Cost = -3 },
		func(i *api.Inst) { i.Arcs[5].Cost += 1 << 32 },
		func(i *api.Inst) { i.Arcs[5].From = 2 },
		func(i *api.Inst) { i.Arcs[1], i.Arcs[2] = i.Arcs[2], i.Arcs[1] },
		func(i *api.Inst) { i.Arcs = i.Arcs[:5] },
		func(i *api.Inst) { i.Arcs = append(i.Arcs, api.Arc{}) },
		func(i *api.Inst) { i.Arcs = nil },
	}
	for k, change := range changes {
		was, is := several(), several()
		change(&is)
		if inst.Same(was, is) || inst.Same(is, was) {
			t.Errorf("Same of an instance and its change %d: true", k)
		}
	}
	if inst.Same(api.Inst{Supply: []int64{0}}, api.Inst{}) || inst.Same(api.Inst{}, api.Inst{Arcs: []api.Arc{{}}}) {
		t.Error("Same of nothing and noughts: true")
	}
}

func TestCopy(t *testing.T) {
	for _, i := range []api.Inst{{}, {Supply: []int64{}, Arcs: []api.Arc{}}, of(), of(fine), several(), wrong(), sized(70, 300)} {
		c := inst.Copy(i)
		if !slices.Equal(c.Supply, i.Supply) || !slices.Equal(c.Arcs, i.Arcs) {
			t.Errorf("Copy of %v: %v", i, c)
		}
	}
}

func TestSpan(t *testing.T) {
	checks := []struct {
		name string
		i    api.Inst
		span int
	}{
		{"nothing", api.Inst{}, 0},
		{"one node", sized(1, 0), 1},
		{"two nodes, no arcs", of(), 2},
		{"an arc of Low 0", of(api.Arc{Cap: 5, Cost: 6}), 3},
		{"an arc of Low 1", of(fine), 4},
		{"an arc of Low -1", of(api.Arc{Low: -1}), 4},
		{"an arc of Low 2^32", of(api.Arc{Low: 1 << 32}), 4},
		{"an arc of Low -2^63", of(api.Arc{Low: math.MinInt64}), 4},
		{"an arc without a node", api.Inst{Arcs: []api.Arc{{Low: 3}}}, 2},
		{"several", several(), 14},
		{"wrong", wrong(), 15},
		{"the greatest", sized(64, 256), 320},
		{"greater ones", sized(2000, 3000), 5000},
		{"all of Low 1", api.Inst{Supply: make([]int64, 64), Arcs: slices.Repeat([]api.Arc{fine}, 256)}, 576},
	}
	for _, c := range checks {
		if n := inst.Span(c.i); n != c.span {
			t.Errorf("Span of %s: %d", c.name, n)
		}
	}
}

func TestKept(t *testing.T) {
	checks := []struct {
		off  []bool
		n    int
		kept []int
	}{
		{nil, 0, nil},
		{nil, -1, nil},
		{nil, math.MinInt, nil},
		{[]bool{false, false}, 0, nil},
		{[]bool{false, false}, -1, nil},
		{nil, 1, []int{0}},
		{nil, 3, []int{0, 1, 2}},
		{[]bool{}, 3, []int{0, 1, 2}},
		{[]bool{false}, 1, []int{0}},
		{[]bool{true}, 1, nil},
		{[]bool{true}, 3, []int{1, 2}},
		{[]bool{false, true}, 4, []int{0, 2, 3}},
		{[]bool{true, false, true}, 3, []int{1}},
		{[]bool{true, false, true, false, true}, 3, []int{1}},
		{[]bool{true, true, true, false}, 3, nil},
		{[]bool{true, true, true}, 3, nil},
	}
	for _, c := range checks {
		if l := inst.Kept(c.off, c.n); !slices.Equal(l, c.kept) {
			t.Errorf("Kept of %v and %d: %v", c.off, c.n, l)
		}
	}
}

// TestKeptOfMany looks at lists about as long as 1000, of as many numbers and of more.
func TestKeptOfMany(t *testing.T) {
	for _, n := range []int{999, 1000, 1001, 1 << 32, math.MaxInt} {
		for _, size := range []int{0, 1, 998, 999, 1000, 1001, 5000} {
			off := make([]bool, size)
			for k := range off {
				off[k] = k%3 == 1 || k >= 1000
			}
			var want []int
			for k := 0; k < 1000 && k < n; k++ {
				if k >= size || k%3 != 1 {
					want = append(want, k)
				}
			}
			if l := inst.Kept(off, n); !slices.Equal(l, want) {
				t.Errorf("Kept of %d marks and %d: %v", size, n, l)
			}
		}
	}
}

func TestKeptOfAll(t *testing.T) {
	for size := range 6 {
		for _, off := range subsets(size) {
			for n := -1; n < 8; n++ {
				var want []int
				for k := 0; k < n; k++ {
					if k >= size || !off[k] {
						want = append(want, k)
					}
				}
				if l := inst.Kept(off, n); !slices.Equal(l, want) {
					t.Errorf("Kept of %v and %d: %v", off, n, l)
				}
			}
		}
	}
}

func TestWithout(t *testing.T) {
	i := several()
	checks := []struct {
		name        string
		nodes, arcs []bool
		left        api.Inst
	}{
		{"nothing", nil, nil, i},
		{"nothing, by marks", make([]bool, 4), make([]bool, 6), i},
		{"nothing, by some marks", make([]bool, 1), make([]bool, 2), i},
		{"what is behind", []bool{4: true, 9: true}, []bool{6: true, 7: true}, i},
		{"an arc", nil, []bool{true}, api.Inst{Supply: i.Supply, Arcs: i.Arcs[1:]}},
		{"all arcs", nil, []bool{true, true, true, true, true, true}, api.Inst{Supply: i.Supply}},
		{"all nodes", []bool{true, true, true, true}, nil, api.Inst{}},
		{"all nodes and arcs", []bool{true, true, true, true}, []bool{true, true, true, true, true, true}, api.Inst{}},
		{"the last node", []bool{3: true}, nil, api.Inst{
			Supply: []int64{5, -7, 0},
			Arcs:   []api.Arc{i.Arcs[0], i.Arcs[1], i.Arcs[3], i.Arcs[4]},
		}},
		{"the node 0", []bool{true}, nil, api.Inst{
			Supply: []int64{-7, 0, 2},
			Arcs:   []api.Arc{{From: 0, To: 0, Cap: api.Inf, Cost: -4}, {From: 2, To: 1, Low: 5, Cap: 5, Cost: 6}, {From: 2, To: 2, Low: 8, Cap: 9, Cost: 10}},
		}},
		{"a node between, and arcs", []bool{false, true}, []bool{2: true, 7: true}, api.Inst{
			Supply: []int64{5, 0, 2},
			Arcs:   []api.Arc{{From: 1, To: 0}, {From: 2, To: 2, Low: 8, Cap: 9, Cost: 10}},
		}},
	}
	for _, c := range checks {
		left := inst.Without(i, c.nodes, c.arcs)
		if !slices.Equal(left.Supply, c.left.Supply) || !slices.Equal(left.Arcs, c.left.Arcs) {
			t.Errorf("Without %s: %v", c.name, left)
		}
	}
}

// leftOf is what Without has to leave, told node by node and arc by arc.
func leftOf(i api.Inst, nodes, arcs []bool) api.Inst {
	var left api.Inst
	places := map[int]int{}
	for n, supply := range i.Supply {
		if n < len(nodes) && nodes[n] {
			continue
		}
		places[n] = len(left.Supply)
		left.Supply = append(left.Supply, supply)
	}
	for k, a := range i.Arcs {
		from, fromStays := places[a.From]
		to, toStays := places[a.To]
		if k < len(arcs) && arcs[k] || !fromStays || !toStays {
			continue
		}
		a.From, a.To = from, to
		left.Arcs = append(left.Arcs, a)
	}
	return left
}

func TestWithoutOfAll(t *testing.T) {
	for name, i := range map[string]api.Inst{"nothing": {}, "several": several(), "wrong": wrong()} {
		for size := range len(i.Supply) + 2 {
			for _, nodes := range subsets(size) {
				for _, arcs := range subsets(len(i.Arcs)) {
					left, want := inst.Without(i, nodes, arcs), leftOf(i, nodes, arcs)
					if !slices.Equal(left.Supply, want.Supply) || !slices.Equal(left.Arcs, want.Arcs) {
						t.Fatalf("Without of %s, %v and %v: %v", name, nodes, arcs, left)
					}
				}
			}
		}
	}
}

// TestWithoutOfTooMany looks at instances of more than 1000 nodes and arcs, of which Kept tells the first 1000.
func TestWithoutOfTooMany(t *testing.T) {
	i := api.Inst{Supply: make([]int64, 1002), Arcs: make([]api.Arc, 1003)}
	for n := range i.Supply {
		i.Supply[n] = int64(n)
	}
	for a := range i.Arcs {
		i.Arcs[a] = api.Arc{From: a % 1002, To: 999, Cost: int64(a)}
	}
	left := inst.Without(i, []bool{true}, []bool{false, false, true})
	if !slices.Equal(left.Supply, i.Supply[1:1000]) || len(left.Arcs) != 998 {
		t.Fatalf("Without of 1002 nodes and 1003 arcs: %d nodes, %d arcs", len(left.Supply), len(left.Arcs))
	}
	if left.Arcs[0] != (api.Arc{From: 0, To: 998, Cost: 1}) || left.Arcs[1] != (api.Arc{From: 2, To: 998, Cost: 3}) || left.Arcs[997] != (api.Arc{From: 998, To: 998, Cost: 999}) {
		t.Errorf("Without of 1002 nodes and 1003 arcs: %v", left.Arcs)
	}
	i.Arcs = []api.Arc{{From: 1000, To: 0}, {From: 0, To: 1001}, {From: 999, To: 0, Cost: 5}}
	if left := inst.Without(i, nil, nil); len(left.Supply) != 1000 || len(left.Arcs) != 1 || left.Arcs[0].Cost != 5 {
		t.Errorf("Without of arcs at the node 1000: %d nodes, %v", len(left.Supply), left.Arcs)
	}
}
