package reach_test

import (
	"slices"
	"sync"
	"testing"

	"quittance/api"
	"quittance/reach"
)

// several is an instance of two rings, of a LOOP, of arcs side by side, and of an arc that counts for nothing.
func several() api.Inst {
	return of(7, [2]int{1, 2}, [2]int{2, 1}, [2]int{2, 3}, [2]int{5, 4}, [2]int{4, 5}, [2]int{3, 5}, [2]int{3, 5}, [2]int{6, 6}, [2]int{7, 0})
}

// ordered is one that has an Order.
func ordered() api.Inst {
	return of(7, [2]int{6, 2}, [2]int{2, 1}, [2]int{2, 1}, [2]int{1, 4}, [2]int{5, 3}, [2]int{7, 0}, [2]int{3, -1}, [2]int{6, 4}, [2]int{0, 4})
}

// handed is what calls are handed, each list with more behind its length, which would be nodes, arcs, and some.
type handed struct {
	i    api.Inst
	some []int
}

// hand is the same whenever it is asked.
func hand(i api.Inst) handed {
	return handed{
		api.Inst{
			Supply: append(i.Supply, 77, 78)[:len(i.Supply)],
			Arcs:   append(i.Arcs, api.Arc{From: 0, To: 6}, api.Arc{From: 6, To: 0})[:len(i.Arcs)],
		},
		append([]int{3, 9, 3}, 0, 1, 6)[:3],
	}
}

// whole is all of what was handed, with what lies behind.
func (h handed) whole() handed {
	return handed{
		api.Inst{Supply: slices.Clone(h.i.Supply[:len(h.i.Supply)+2]), Arcs: slices.Clone(h.i.Arcs[:len(h.i.Arcs)+2])},
		slices.Clone(h.some[:6]),
	}
}

// same says whether two were handed the same.
func (h handed) same(o handed) bool {
	return slices.Equal(h.i.Supply, o.i.Supply) && slices.Equal(h.i.Arcs, o.i.Arcs) && slices.Equal(h.some, o.some)
}

// spoil changes all that was handed, with what lies behind.
func (h handed) spoil() {
	clear(h.i.Supply[:len(h.i.Supply)+2])
	arcs := h.i.Arcs[:len(h.i.Arcs)+2]
	for k := range arcs {
		arcs[k] = api.Arc{From: k % 3, To: 4, Low: 99}
	}
	clear(h.some[:6])
}

// numbers are answers of true and false as numbers.
func numbers(l []bool) []int {
	var all []int
	for _, is := range l {
		number := 0
		if is {
			number = 1
		}
		all = append(all, number)
	}
	return all
}

// calls are all of them; each tells its answer as numbers, and a function that changes the answer, with what lies behind it.
func calls() map[string]func(h handed) ([]int, func()) {
	yes := func(l []bool) ([]int, func()) {
		return numbers(l), func() {
			l = l[:cap(l)]
			for k := range l {
				l[k] = !l[k]
			}
		}
	}
	nodes := func(l []int) ([]int, func()) {
		return slices.Clone(l), func() {
			l = l[:cap(l)]
			for k := range l {
				l[k] = 99
			}
		}
	}
	return map[string]func(h handed) ([]int, func()){
		"From":   func(h handed) ([]int, func()) { return yes(reach.From(h.i, h.some)) },
		"To":     func(h handed) ([]int, func()) { return yes(reach.To(h.i, h.some)) },
		"Strong": func(h handed) ([]int, func()) { return nodes(reach.Strong(h.i)) },
		"Back":   func(h handed) ([]int, func()) { return yes(reach.Back(h.i)) },
		"Order":  func(h handed) ([]int, func()) { l, _ := reach.Order(h.i); return nodes(l) },
	}
}

// TestWhatIsHandedInStays asks all calls: what they are handed, and what lies behind it, stays.
func TestWhatIsHandedInStays(t *testing.T) {
	for name, call := range calls() {
		for _, i := range []api.Inst{several(), ordered()} {
			h := hand(i)
			was := h.whole()
			_, spoil := call(h)
			if !h.whole().same(was) {
				t.Errorf("%s changed what it was handed", name)
			}
			spoil()
			if !h.whole().same(was) {
				t.Errorf("%s told what it was handed", name)
			}
		}
	}
}

// TestBehindIsNotRead holds what is told of lists with more behind them against what is told of those without.
func TestBehindIsNotRead(t *testing.T) {
	for name, call := range calls() {
		for _, i := range []api.Inst{several(), ordered()} {
			h := hand(i)
			bare := handed{api.Inst{Supply: slices.Clip(slices.Clone(h.i.Supply)), Arcs: slices.Clip(slices.Clone(h.i.Arcs))}, slices.Clip(slices.Clone(h.some))}
			is, _ := call(h)
			want, _ := call(bare)
			if !slices.Equal(is, want) {
				t.Errorf("%s with more behind: %v, not %v", name, is, want)
			}
		}
	}
}

// TestNothingHandedInIsKept changes what was handed in: what was told of it, and what is told later of the same, stays.
func TestNothingHandedInIsKept(t *testing.T) {
	for name, call := range calls() {
		for _, i := range []func() api.Inst{several, ordered} {
			h := hand(i())
			first, _ := call(h)
			h.spoil()
			if again, _ := call(hand(i())); !slices.Equal(again, first) {
				t.Errorf("%s, what it was handed ahead of it changed: %v, not %v", name, again, first)
			}
		}
	}
	i := several()
	some := []int{3}
	from, to, strong, back := reach.From(i, some), reach.To(i, some), reach.Strong(i), reach.Back(i)
	clear(i.Arcs)
	clear(some)
	if letters(from) != "...xxx." || letters(to) != ".xxx..." || letters(back) != "xx.xx..x." {
		t.Errorf("what was told changed with what was handed in: %v, %v, %v", from, to, back)
	}
	if !slices.Equal(strong, []int{0, 1, 1, 3, 4, 4, 6}) {
		t.Errorf("what Strong told changed with what was handed in: %v", strong)
	}
}

// TestWhatIsToldIsNew changes what was told, with what lies behind it: what was told beside it, or is told later, stays.
func TestWhatIsToldIsNew(t *testing.T) {
	for _, i := range []api.Inst{several(), ordered(), of(3), ring(3, 1)} {
		h := hand(i)
		for name, call := range calls() {
			want, spoil := call(h)
			from, to, strong, back := reach.From(h.i, h.some), reach.To(h.i, h.some), reach.Strong(h.i), reach.Back(h.i)
			order, _ := reach.Order(h.i)
			lists := func() [][]int {
				return [][]int{numbers(from), numbers(to), slices.Clone(strong), numbers(back), slices.Clone(order)}
			}
			was := lists()
			spoil()
			for k, l := range lists() {
				if !slices.Equal(l, was[k]) {
					t.Errorf("what %s told lies in what was told beside it", name)
				}
			}
			if again, _ := call(h); !slices.Equal(again, want) {
				t.Errorf("%s, what it told ahead of it changed: %v, not %v", name, again, want)
			}
		}
	}
}

// TestAskedByMany asks all calls from several goroutines at once, of the same and of others.
func TestAskedByMany(t *testing.T) {
	h, other := hand(several()), hand(ordered())
	var all sync.WaitGroup
	for name, call := range calls() {
		want, _ := call(h)
		wantOther, _ := call(other)
		for range 4 {
			all.Go(func() {
				is, spoil := call(h)
				isOther, spoilOther := call(other)
				if !slices.Equal(is, want) || !slices.Equal(isOther, wantOther) {
					t.Errorf("%s among others: %v, %v", name, is, isOther)
				}
				spoil()
				spoilOther()
			})
		}
	}
	all.Wait()
}
