package unite_test

import (
	"slices"
	"testing"

	"quittance/unite"
)

// some are joins of ten numbers, which leave groups of one, of two and of more.
func some() []pair { return []pair{{9, 3}, {3, 5}, {5, 9}, {0, 7}, {8, 4}, {4, 6}} }

// spoil changes a list of groups, each group, and what lies behind them.
func spoil(l [][]int) {
	for _, group := range l {
		group = group[:cap(group)]
		for k := range group {
			group[k] = 99
		}
	}
	clear(l[:cap(l)])
}

// kept is a list of groups in memory of its own.
func kept(l [][]int) [][]int {
	var all [][]int
	for _, group := range l {
		all = append(all, slices.Clone(group))
	}
	return all
}

// TestWhatIsToldIsNew changes groups that were told: neither the sets nor groups told ahead of it or behind it change.
func TestWhatIsToldIsNew(t *testing.T) {
	s, p := joined(t, 10, some())
	first, second := s.Groups(), s.Groups()
	spoil(first)
	if !alike(second, p.groups()) {
		t.Errorf("groups told twice lie in one list: %v", second)
	}
	hold(t, s, p)
	spoil(second)
	if s.Join(9, 0) != p.join(9, 0) {
		t.Error("a Join behind that is told otherwise")
	}
	hold(t, s, p)
}

// TestGroupsAreApart changes one group of an answer, and what lies behind it, and appends to it: no other group of it changes.
func TestGroupsAreApart(t *testing.T) {
	for _, pairs := range [][]pair{nil, some(), {{0, 1}, {2, 3}, {4, 5}, {6, 7}, {8, 9}}, {{0, 4}, {5, 9}, {1, 2}}} {
		s, p := joined(t, 10, pairs)
		for k := range s.Groups() {
			l := s.Groups()
			want := kept(l)
			_ = append(l[k], 99, 99, 99)
			spoil(l[k : k+1 : k+1])
			l[k], want[k] = nil, nil
			if !alike(l, want) {
				t.Errorf("behind %v, with the group %d changed: %v", pairs, k, l)
			}
			hold(t, s, p)
		}
	}
}

// TestWhatWasToldStays joins on: what was told ahead of it does not change.
func TestWhatWasToldStays(t *testing.T) {
	s, _ := joined(t, 10, nil)
	var told, want [][][]int
	for _, x := range some() {
		told = append(told, s.Groups())
		want = append(want, kept(told[len(told)-1]))
		s.Join(x.a, x.b)
		s.Least(x.b)
	}
	for k := range told {
		if !alike(told[k], want[k]) {
			t.Errorf("groups told ahead of the join %d: %v", k, told[k])
		}
	}
}

// TestSetsAreApart joins by turns numbers of several sets: they know nothing of one another.
func TestSetsAreApart(t *testing.T) {
	first, second, third := unite.New(10), unite.New(10), unite.New(4)
	p, q, r := plainly(10), plainly(10), plainly(4)
	for _, x := range some() {
		if first.Join(x.a, x.b) != p.join(x.a, x.b) {
			t.Errorf("Join of %v of the first sets", x)
		}
		if second.Join(9-x.b, 9-x.a) != q.join(9-x.b, 9-x.a) {
			t.Errorf("Join of %v, turned, of the second sets", x)
		}
		if third.Join(x.a, x.b) != r.join(x.a, x.b) {
			t.Errorf("Join of %v of the third sets", x)
		}
		hold(t, first, p)
		hold(t, second, q)
		hold(t, third, r)
	}
	spoil(second.Groups())
	hold(t, first, p)
	hold(t, unite.New(10), plainly(10))
}

// TestToldAgain makes the same sets many times: each time the same is told, whatever was asked between.
func TestToldAgain(t *testing.T) {
	_, p := joined(t, 100, scattered(100, 60))
	for k := range 50 {
		s := unite.New(100)
		for _, x := range scattered(100, 60) {
			s.Join(x.a, x.b)
			for range k % 3 {
				s.Least(x.a + k)
				s.Groups()
				s.Same(x.b, k)
			}
		}
		holdGroups(t, s, p)
	}
}
