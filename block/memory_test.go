package block_test

import (
	"slices"
	"sync"
	"testing"

	"quittance/api"
	"quittance/block"
)

// several is an instance of two rings that share a node, of arcs side by side, of a LOOP, and of an arc that counts for nothing.
func several() api.Inst {
	return of(7, [2]int{4, 5}, [2]int{1, 2}, [2]int{2, 3}, [2]int{3, 3}, [2]int{3, 1}, [2]int{5, 3}, [2]int{7, 0}, [2]int{3, 4}, [2]int{6, 0}, [2]int{0, 6})
}

// tree is one whose arcs are all alone in their blocks.
func tree() api.Inst {
	return of(7, [2]int{6, 2}, [2]int{2, 1}, [2]int{1, 4}, [2]int{5, 4}, [2]int{3, 4}, [2]int{0, 6}, [2]int{3, -1})
}

// hand is an instance with more behind each list's length, which would be nodes, and arcs that hold all together.
func hand(i api.Inst) api.Inst {
	return api.Inst{
		Supply: append(slices.Clone(i.Supply), 77, 78)[:len(i.Supply)],
		Arcs:   append(slices.Clone(i.Arcs), api.Arc{From: 0, To: 5}, api.Arc{From: 5, To: 6})[:len(i.Arcs)],
	}
}

// whole is all of what was handed, with what lies behind.
func whole(i api.Inst) api.Inst {
	return api.Inst{Supply: slices.Clone(i.Supply[:len(i.Supply)+2]), Arcs: slices.Clone(i.Arcs[:len(i.Arcs)+2])}
}

// alike says whether two were handed the same.
func alike(a, b api.Inst) bool {
	return slices.Equal(a.Supply, b.Supply) && slices.Equal(a.Arcs, b.Arcs)
}

// spoil changes all that was handed, with what lies behind.
func spoil(i api.Inst) {
	clear(i.Supply[:len(i.Supply)+2])
	arcs := i.Arcs[:len(i.Arcs)+2]
	for k := range arcs {
		arcs[k] = api.Arc{From: k % 3, To: 4, Low: 99}
	}
}

// overwrite changes a list, with what lies behind it.
func overwrite(l []int) {
	l = l[:cap(l)]
	for k := range l {
		l[k] = 99
	}
}

// clones are lists, each of them new.
func clones(lists [][]int) [][]int {
	var all [][]int
	for _, l := range lists {
		all = append(all, slices.Clone(l))
	}
	return all
}

// calls are all of them; each tells its answer as lists, and a function that changes the answer, with what lies behind it.
func calls() map[string]func(i api.Inst) ([][]int, func()) {
	return map[string]func(i api.Inst) ([][]int, func()){
		"Blocks": func(i api.Inst) ([][]int, func()) {
			lists := block.Blocks(i)
			return clones(lists), func() {
				for _, l := range lists {
					overwrite(l)
				}
				clear(lists[:cap(lists)])
			}
		},
		"Cuts": func(i api.Inst) ([][]int, func()) {
			l := block.Cuts(i)
			return [][]int{slices.Clone(l)}, func() { overwrite(l) }
		},
		"Apart": func(i api.Inst) ([][]int, func()) {
			var l []int
			for n := range 400 {
				if block.Apart(i, n%7, n/7%7, n/49) {
					l = append(l, n)
				}
			}
			return [][]int{l}, func() {}
		},
	}
}

// TestWhatIsHandedInStays asks all calls: what they are handed, and what lies behind it, stays.
func TestWhatIsHandedInStays(t *testing.T) {
	for name, call := range calls() {
		for _, i := range []api.Inst{hand(several()), hand(tree())} {
			was := whole(i)
			_, change := call(i)
			if !alike(whole(i), was) {
				t.Errorf("%s changed what it was handed", name)
			}
			change()
			if !alike(whole(i), was) {
				t.Errorf("%s told what it was handed", name)
			}
		}
	}
}

// TestBehindIsNotRead holds what is told of lists with more behind them against what is told of those without.
func TestBehindIsNotRead(t *testing.T) {
	for name, call := range calls() {
		for _, i := range []api.Inst{several(), tree()} {
			is, _ := call(hand(i))
			want, _ := call(api.Inst{Supply: slices.Clip(i.Supply), Arcs: slices.Clip(i.Arcs)})
			if !same(is, want) {
				t.Errorf("%s with more behind: %v, not %v", name, is, want)
			}
		}
	}
}

// TestNothingHandedInIsKept changes what was handed in: what was told of it, and what is told later of the same, stays.
func TestNothingHandedInIsKept(t *testing.T) {
	for name, call := range calls() {
		for _, i := range []func() api.Inst{several, tree} {
			handed := hand(i())
			first, _ := call(handed)
			spoil(handed)
			if again, _ := call(hand(i())); !same(again, first) {
				t.Errorf("%s, what it was handed ahead of it changed: %v, not %v", name, again, first)
			}
		}
	}
	handed := hand(several())
	blocks, cuts := block.Blocks(handed), block.Cuts(handed)
	spoil(handed)
	if !same(blocks, [][]int{{0, 5, 7}, {1, 2, 4}, {8, 9}}) || !slices.Equal(cuts, []int{3}) {
		t.Errorf("what was told changed with what was handed in: %v, %v", blocks, cuts)
	}
}

// TestWhatIsToldIsNew changes what was told, with what lies behind it: what was told beside it, or is told later, stays.
func TestWhatIsToldIsNew(t *testing.T) {
	for _, i := range []api.Inst{hand(several()), hand(tree()), of(3), ring(3), beads(20)} {
		for name, call := range calls() {
			want, change := call(i)
			blocks, cuts := block.Blocks(i), block.Cuts(i)
			wasBlocks, wasCuts := clones(blocks), slices.Clone(cuts)
			change()
			if !same(blocks, wasBlocks) || !slices.Equal(cuts, wasCuts) {
				t.Errorf("what %s told lies in what was told beside it", name)
			}
			if again, _ := call(i); !same(again, want) {
				t.Errorf("%s, what it told ahead of it changed: %v, not %v", name, again, want)
			}
		}
	}
}

// TestBlocksLieApart changes each of the blocks that were told in one answer, with what lies behind it: the others stay.
func TestBlocksLieApart(t *testing.T) {
	for _, i := range []api.Inst{several(), tree(), beads(20), near(64, 120, 3)} {
		blocks := block.Blocks(i)
		for k, l := range blocks {
			was := clones(blocks)
			overwrite(l)
			for other := range blocks {
				if other != k && !slices.Equal(blocks[other], was[other]) {
					t.Errorf("of %v: the block %d lies in the block %d", i, other, k)
				}
			}
		}
	}
}

// TestAskedByMany asks all calls from several goroutines at once, of the same and of others.
func TestAskedByMany(t *testing.T) {
	i, other := hand(several()), hand(tree())
	var all sync.WaitGroup
	for name, call := range calls() {
		want, _ := call(i)
		wantOther, _ := call(other)
		for range 4 {
			all.Go(func() {
				is, change := call(i)
				isOther, changeOther := call(other)
				if !same(is, want) || !same(isOther, wantOther) {
					t.Errorf("%s among others: %v, %v", name, is, isOther)
				}
				change()
				changeOther()
			})
		}
	}
	all.Wait()
}
