package unite_test

import (
	"math"
	"slices"
	"testing"

	"quittance/unite"
)

// beyond are numbers far from any that sets have.
var beyond = []int{math.MinInt, -1 << 32, -1000, -2, -1, 1 << 32, math.MaxInt - 1, math.MaxInt}

// asked are the numbers from 0 to some above many, and those far beyond.
func asked(many int) []int {
	l := slices.Clone(beyond)
	for a := range many + 3 {
		l = append(l, a)
	}
	return l
}

// pair is two numbers to be joined.
type pair struct{ a, b int }

// plain is what sets have to tell: of each number the least one of its group.
type plain []int

// plainly is that of so many numbers, each alone.
func plainly(many int) plain {
	p := plain{}
	for a := range many {
		p = append(p, a)
	}
	return p
}

// has says whether a is one of the numbers.
func (p plain) has(a int) bool { return 0 <= a && a < len(p) }

// least is the least number of a group.
func (p plain) least(a int) int {
	if !p.has(a) {
		return -1
	}
	return p[a]
}

// same says whether two are of one group.
func (p plain) same(a, b int) bool { return p.has(a) && p.has(b) && p[a] == p[b] }

// join puts two groups together, number by number.
func (p plain) join(a, b int) bool {
	if !p.has(a) || !p.has(b) || p[a] == p[b] {
		return false
	}
	least, other := min(p[a], p[b]), max(p[a], p[b])
	for k, of := range p {
		if of == other {
			p[k] = least
		}
	}
	return true
}

// groups are all of them.
func (p plain) groups() [][]int {
	var l [][]int
	for least := range p {
		var group []int
		for a, of := range p {
			if of == least {
				group = append(group, a)
			}
		}
		if len(group) > 0 {
			l = append(l, group)
		}
	}
	return l
}

// alike says whether two lists of groups are the same.
func alike(a, b [][]int) bool { return slices.EqualFunc(a, b, slices.Equal) }

// holdGroups holds the groups that sets tell against plain ones.
func holdGroups(t *testing.T, s *unite.Sets, p plain) {
	t.Helper()
	want := p.groups()
	if is := s.Groups(); !alike(is, want) {
		t.Fatalf("Groups of %v: %v", p, is)
	}
	if many := s.Many(); many != len(want) {
		t.Fatalf("Many of %v: %d", p, many)
	}
}

// hold holds all that sets tell against a plain telling, twice: what is told does not hang on what was asked.
func hold(t *testing.T, s *unite.Sets, p plain) {
	t.Helper()
	holdGroups(t, s, p)
	all := asked(len(p))
	for _, a := range all {
		if least := s.Least(a); least != p.least(a) {
			t.Fatalf("Least of %d of %v: %d", a, p, least)
		}
		for _, b := range all {
			if same := s.Same(a, b); same != p.same(a, b) {
				t.Fatalf("Same of %d and %d of %v: %v", a, b, p, same)
			}
		}
	}
	holdGroups(t, s, p)
}

// joined are sets of so many numbers, and the same plainly, with all pairs joined in order: what Join tells is held, too.
func joined(t *testing.T, many int, pairs []pair) (*unite.Sets, plain) {
	t.Helper()
	s, p := unite.New(many), plainly(many)
	for k, x := range pairs {
		if is, want := s.Join(x.a, x.b), p.join(x.a, x.b); is != want {
			t.Fatalf("of %d numbers, Join of %v behind %v: %v", many, x, pairs[:k], is)
		}
	}
	return s, p
}

func TestExample(t *testing.T) {
	s := unite.New(3)
	if !s.Join(0, 2) {
		t.Error("Join of 0 and 2: false")
	}
	if l := s.Groups(); !alike(l, [][]int{{0, 2}, {1}}) {
		t.Errorf("Groups: %v", l)
	}
}

func TestNewAtEdges(t *testing.T) {
	checks := []struct{ n, many int }{
		{math.MinInt, 0}, {-1 << 32, 0}, {-1000, 0}, {-2, 0}, {-1, 0}, {0, 0},
		{1, 1}, {2, 2}, {3, 3}, {64, 64}, {256, 256}, {999, 999}, {1000, 1000},
		{1001, 1000}, {1002, 1000}, {2000, 1000}, {1 << 32, 1000}, {math.MaxInt - 1, 1000}, {math.MaxInt, 1000},
	}
	for _, c := range checks {
		s := unite.New(c.n)
		if s.Many() != c.many || len(s.Groups()) != c.many {
			t.Errorf("New of %d: %d groups are told, and %d of them", c.n, s.Many(), len(s.Groups()))
		}
		hold(t, s, plainly(c.many))
		// The last number may be joined, the one behind it not.
		if is := s.Join(0, c.many); is {
			t.Errorf("New of %d: Join of 0 and %d: true", c.n, c.many)
		}
		if is := s.Join(0, c.many-1); is != (c.many > 1) {
			t.Errorf("New of %d: Join of 0 and %d: %v", c.n, c.many-1, is)
		}
	}
}

func TestJoin(t *testing.T) {
	checks := []struct {
		name  string
		ahead []pair
		join  pair
		told  bool
	}{
		{"two that are alone", nil, pair{1, 3}, true},
		{"two that are alone, the greater first", nil, pair{3, 1}, true},
		{"the first and the last", nil, pair{0, 4}, true},
		{"one and itself", nil, pair{2, 2}, false},
		{"the first and itself", nil, pair{0, 0}, false},
		{"one and itself, not alone", []pair{{2, 3}}, pair{3, 3}, false},
		{"two that were joined", []pair{{1, 3}}, pair{1, 3}, false},
		{"two that were joined, turned", []pair{{1, 3}}, pair{3, 1}, false},
		{"two that were joined, the greater first", []pair{{3, 1}}, pair{3, 1}, false},
		{"the ends of a chain", []pair{{0, 1}, {1, 2}, {2, 3}}, pair{0, 3}, false},
		{"the ends of a chain, turned", []pair{{0, 1}, {1, 2}, {2, 3}}, pair{3, 0}, false},
		{"two of a star", []pair{{4, 0}, {4, 1}, {4, 2}}, pair{1, 2}, false},
		{"two groups by their least", []pair{{0, 2}, {1, 3}}, pair{0, 1}, true},
		{"two groups by their greatest", []pair{{0, 2}, {1, 3}}, pair{3, 2}, true},
		{"two groups again", []pair{{0, 2}, {1, 3}, {3, 2}}, pair{0, 1}, false},
		{"a group and one alone", []pair{{2, 3}, {3, 4}}, pair{4, 0}, true},
		{"behind one that is none", []pair{{-1, 2}, {2, 5}}, pair{2, 3}, true},
		{"-1", nil, pair{-1, 0}, false},
		{"-1, behind", nil, pair{0, -1}, false},
		{"-1 and itself", nil, pair{-1, -1}, false},
		{"-1 and -2", nil, pair{-1, -2}, false},
		{"beyond the last", nil, pair{5, 0}, false},
		{"beyond the last, behind", nil, pair{0, 5}, false},
		{"beyond the last and itself", nil, pair{5, 5}, false},
		{"the last and beyond", nil, pair{4, 5}, false},
		{"far below", nil, pair{math.MinInt, 1}, false},
		{"far above", nil, pair{1, math.MaxInt}, false},
		{"far below and far above", nil, pair{math.MinInt, math.MaxInt}, false},
	}
	for _, c := range checks {
		s, p := joined(t, 5, c.ahead)
		if told := s.Join(c.join.a, c.join.b); told != c.told {
			t.Errorf("Join of %s: %v", c.name, told)
		}
		p.join(c.join.a, c.join.b)
		hold(t, s, p)
	}
}

func TestTold(t *testing.T) {
	s, _ := joined(t, 7, []pair{{6, 2}, {5, 3}, {3, 0}, {4, 4}, {7, 1}, {-1, 1}})
	if l := s.Groups(); !alike(l, [][]int{{0, 3, 5}, {1}, {2, 6}, {4}}) {
		t.Errorf("Groups: %v", l)
	}
	if s.Many() != 4 {
		t.Errorf("Many: %d", s.Many())
	}
	for a, want := range map[int]int{0: 0, 1: 1, 2: 2, 3: 0, 4: 4, 5: 0, 6: 2, 7: -1, -1: -1, -2: -1, math.MaxInt: -1, math.MinInt: -1} {
		if least := s.Least(a); least != want {
			t.Errorf("Least of %d: %d", a, least)
		}
	}
	checks := []struct {
		a, b int
		same bool
	}{
		{0, 5, true}, {5, 0, true}, {3, 5, true}, {2, 6, true}, {4, 4, true}, {1, 1, true},
		{0, 1, false}, {5, 6, false}, {6, 5, false}, {1, 4, false},
		{-1, -1, false}, {-1, -2, false}, {7, 7, false}, {7, 8, false}, {-1, 0, false}, {0, -1, false}, {7, 1, false}, {1, 7, false},
		{math.MinInt, math.MinInt, false}, {math.MaxInt, math.MaxInt, false}, {math.MinInt, math.MaxInt, false},
	}
	for _, c := range checks {
		if same := s.Same(c.a, c.b); same != c.same {
			t.Errorf("Same of %d and %d: %v", c.a, c.b, same)
		}
	}
}

func TestWithoutSets(t *testing.T) {
	for name, s := range map[string]*unite.Sets{"nil": nil, "Sets that New did not make": {}} {
		for range 2 {
			if s.Many() != 0 || len(s.Groups()) != 0 {
				t.Errorf("of %s: %d groups are told, and %v", name, s.Many(), s.Groups())
			}
			for _, a := range asked(3) {
				if least := s.Least(a); least != -1 {
					t.Errorf("of %s, Least of %d: %d", name, a, least)
				}
				for _, b := range asked(3) {
					if s.Join(a, b) || s.Same(a, b) {
						t.Errorf("of %s, %d and %d: they are joined, or of one group", name, a, b)
					}
				}
			}
		}
	}
}

// pairsFrom are all pairs of the numbers from least to most, in either order.
func pairsFrom(least, most int) []pair {
	var l []pair
	for a := least; a <= most; a++ {
		for b := least; b <= most; b++ {
			l = append(l, pair{a, b})
		}
	}
	return l
}

// ofAll holds sets of so many numbers behind each list of at most so many joins of the pairs.
func ofAll(t *testing.T, many, joins int, pairs []pair) {
	t.Helper()
	lists := [][]pair{nil}
	for first := 0; first < len(lists); first++ {
		l := lists[first]
		s, p := joined(t, many, l)
		hold(t, s, p)
		if len(l) == joins {
			continue
		}
		for _, x := range pairs {
			lists = append(lists, append(slices.Clone(l), x))
		}
	}
}

// TestOfAll goes through all lists of a few joins of a few numbers, those that are just none among them.
func TestOfAll(t *testing.T) {
	for many := range 4 {
		ofAll(t, many, 3, pairsFrom(-1, many))
	}
	ofAll(t, 4, 4, pairsFrom(0, 3))
	ofAll(t, 5, 4, []pair{{1, 0}, {1, 2}, {3, 2}, {4, 3}, {4, 0}, {2, 4}})
}

// scattered are so many pairs of numbers, from some below 0 to some beyond the last one, in no order.
func scattered(many, joins int) []pair {
	at := uint32(many + joins)
	next := func() int {
		at = at*1664525 + 1013904223
		return int(at>>8)%(many+4) - 2
	}
	var l []pair
	for range joins {
		l = append(l, pair{next(), next()})
	}
	return l
}

// turned are the same pairs, each with its numbers turned.
func turned(l []pair) []pair {
	var all []pair
	for _, x := range l {
		all = append(all, pair{x.b, x.a})
	}
	return all
}

// backward are the same pairs, the last one first.
func backward(l []pair) []pair {
	all := slices.Clone(l)
	slices.Reverse(all)
	return all
}

// shapes are lists of joins of so many numbers: chains, stars, and others.
func shapes(many int) map[string][]pair {
	l := map[string][]pair{}
	for a := range many - 1 {
		l["chain"] = append(l["chain"], pair{a, a + 1})
		l["star of the first"] = append(l["star of the first"], pair{0, a + 1})
		l["star of the last"] = append(l["star of the last"], pair{many - 1, a})
		l["star of one between"] = append(l["star of one between"], pair{many / 2, a})
		l["from both ends"] = append(l["from both ends"], pair{a, many - 1 - a})
	}
	for step := 1; step < many; step *= 2 {
		for a := 0; a+step < many; a += 2 * step {
			l["two by two"] = append(l["two by two"], pair{min(a+2*step, many) - 1, a + step - 1})
		}
	}
	for a := range many - 7 {
		l["seven chains"] = append(l["seven chains"], pair{a + 7, a})
	}
	l["scattered"] = scattered(many, many/2)
	l["scattered, more"] = scattered(many, 3*many)
	return l
}

// TestShapes joins numbers in chains, in stars and in other orders, each forward and backward, and each pair in either order.
func TestShapes(t *testing.T) {
	for _, many := range []int{2, 3, 8, 63, 64} {
		for _, l := range shapes(many) {
			for _, pairs := range [][]pair{l, turned(l), backward(l), turned(backward(l))} {
				s, p := joined(t, many, pairs)
				hold(t, s, p)
			}
		}
	}
	for _, l := range shapes(1000) {
		for _, pairs := range [][]pair{l, turned(backward(l))} {
			s, p := joined(t, 1000, pairs)
			hold(t, s, p)
		}
	}
}

// TestStepByStep asks everything behind each join: no answer hangs on what was asked ahead of it.
func TestStepByStep(t *testing.T) {
	const many = 24
	for _, l := range shapes(many) {
		for _, pairs := range [][]pair{l, turned(l), backward(l), turned(backward(l))} {
			s, p := unite.New(many), plainly(many)
			for _, x := range pairs {
				if is, want := s.Join(x.a, x.b), p.join(x.a, x.b); is != want {
					t.Fatalf("Join of %v of %v: %v", x, p, is)
				}
				hold(t, s, p)
			}
		}
	}
}

// TestJustIfPutTogether looks whether two are of one group just if joins lead from the one to the other one, step by step.
func TestJustIfPutTogether(t *testing.T) {
	const many = 40
	for _, joins := range []int{0, 1, 10, 25, 45, 200} {
		pairs := scattered(many, joins)
		s, _ := joined(t, many, pairs)
		for a := range many {
			met := metFrom(a, many, pairs)
			for b := range many {
				if s.Same(a, b) != met[b] {
					t.Errorf("Same of %d and %d behind %v: %v", a, b, pairs, !met[b])
				}
			}
		}
	}
}

// metFrom are the numbers that joins lead to from a number, step by step.
func metFrom(a, many int, pairs []pair) map[int]bool {
	met := map[int]bool{a: true}
	is := func(k int) bool { return 0 <= k && k < many }
	for range many {
		for _, x := range pairs {
			if is(x.a) && is(x.b) && (met[x.a] || met[x.b]) {
				met[x.a], met[x.b] = true, true
			}
		}
	}
	return met
}

// TestManyFalls looks whether there is one group less behind each join that is told, and behind no other one.
func TestManyFalls(t *testing.T) {
	for name, pairs := range shapes(200) {
		s := unite.New(200)
		many := 200
		for _, x := range pairs {
			if s.Join(x.a, x.b) {
				many--
			}
			if s.Many() != many {
				t.Fatalf("%s: %d groups behind Join of %v, not %d", name, s.Many(), x, many)
			}
		}
	}
}
