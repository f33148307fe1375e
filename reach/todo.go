package reach

import (
	"container/heap"
	"sort"
)

// todo is what is still to do.
type todo interface {
	put(n int)
	// take takes one away; false, if there is none.
	take() (int, bool)
}

// walk does all that is to do, one by one: meet tells of each what is to do then.
func walk(rest todo, meet func(n int) []int) {
	for n, ok := rest.take(); ok; n, ok = rest.take() {
		for _, m := range meet(n) {
			rest.put(m)
		}
	}
}

// newest gives the newest first.
type newest []int

func (l *newest) put(n int) { *l = append(*l, n) }

func (l *newest) take() (int, bool) {
	last := len(*l) - 1
	if last < 0 {
		return 0, false
	}
	n := (*l)[last]
	*l = (*l)[:last]
	return n, true
}

// least gives the least first, as a heap does.
type least struct{ sort.IntSlice }

func (l *least) put(n int) { heap.Push(l, n) }

func (l *least) take() (int, bool) {
	if l.Len() == 0 {
		return 0, false
	}
	return heap.Pop(l).(int), true
}

// Push is for package heap.
func (l *least) Push(x any) { l.IntSlice = append(l.IntSlice, x.(int)) }

// Pop is for package heap.
func (l *least) Pop() any {
	last := l.Len() - 1
	n := l.IntSlice[last]
	l.IntSlice = l.IntSlice[:last]
	return n
}
