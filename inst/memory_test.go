package inst_test

import (
	"slices"
	"testing"

	"quittance/api"
	"quittance/inst"
)

// handed is what calls are handed, each list with more behind its length.
type handed struct {
	i           api.Inst
	nodes, arcs []bool
}

// behind is a list with some things behind its length in its memory.
func behind[T any](l []T, more ...T) []T {
	return append(slices.Clone(l), more...)[:len(l)]
}

// hand is the same whenever it is asked.
func hand() handed {
	i := several()
	return handed{
		api.Inst{Supply: behind(i.Supply, 77, 78), Arcs: behind(i.Arcs, api.Arc{From: 1, To: 2, Low: 77}, api.Arc{Low: 78})},
		behind([]bool{false, true}, true, true, true),
		behind([]bool{true}, true, true, true),
	}
}

// whole says whether two lists are the same, with what lies behind their lengths.
func whole[T comparable](a, b []T, more int) bool {
	return len(a) == len(b) && slices.Equal(a[:len(a)+more], b[:len(b)+more])
}

// calls are those that are handed lists; each tells the lists of its answer.
func calls() map[string]func(h handed) api.Inst {
	return map[string]func(h handed) api.Inst{
		"Right": func(h handed) api.Inst { inst.Right(h.i); return api.Inst{} },
		"Same":  func(h handed) api.Inst { inst.Same(h.i, h.i); return api.Inst{} },
		"Copy":  func(h handed) api.Inst { return inst.Copy(h.i) },
		"Span":  func(h handed) api.Inst { inst.Span(h.i); return api.Inst{} },
		"Kept": func(h handed) api.Inst {
			var l []int64
			for _, n := range inst.Kept(h.nodes, 4) {
				l = append(l, int64(n))
			}
			return api.Inst{Supply: l}
		},
		"Without":             func(h handed) api.Inst { return inst.Without(h.i, h.nodes, h.arcs) },
		"Without nothing":     func(h handed) api.Inst { return inst.Without(h.i, nil, nil) },
		"Without of no marks": func(h handed) api.Inst { return inst.Without(h.i, h.nodes[:0], h.arcs[:0]) },
	}
}

func TestWhatIsHandedInStays(t *testing.T) {
	for name, call := range calls() {
		h, was := hand(), hand()
		call(h)
		if !whole(h.i.Supply, was.i.Supply, 2) || !whole(h.i.Arcs, was.i.Arcs, 2) || !whole(h.nodes, was.nodes, 3) || !whole(h.arcs, was.arcs, 3) {
			t.Errorf("%s changed what it was handed", name)
		}
	}
}

// TestWhatIsToldIsNew changes all that came out, with what lies behind it, and looks whether what was handed in, or comes out later, changed too.
func TestWhatIsToldIsNew(t *testing.T) {
	for name, call := range calls() {
		h, was := hand(), hand()
		first, want := call(h), call(hand())
		for k := range first.Supply[:cap(first.Supply)] {
			first.Supply[:cap(first.Supply)][k] = 99
		}
		for k := range first.Arcs[:cap(first.Arcs)] {
			first.Arcs[:cap(first.Arcs)][k] = api.Arc{Low: 99}
		}
		if !whole(h.i.Supply, was.i.Supply, 2) || !whole(h.i.Arcs, was.i.Arcs, 2) {
			t.Errorf("%s: what it told is what it was handed", name)
		}
		if second := call(h); !slices.Equal(second.Supply, want.Supply) || !slices.Equal(second.Arcs, want.Arcs) {
			t.Errorf("%s: what it told changed what it told later", name)
		}
	}
}

// TestKeptIsNew changes the list that Kept told, and asks again.
func TestKeptIsNew(t *testing.T) {
	for _, off := range [][]bool{nil, {false, true}} {
		first := inst.Kept(off, 4)
		want := slices.Clone(first)
		for k := range first[:cap(first)] {
			first[:cap(first)][k] = 99
		}
		if second := inst.Kept(off, 4); !slices.Equal(second, want) {
			t.Errorf("Kept of %v, what it told before changed: %v", off, second)
		}
	}
}

// TestNothingIsKept changes what was handed in, and looks whether what came out of it changed too.
func TestNothingIsKept(t *testing.T) {
	for name, call := range calls() {
		h := hand()
		told, want := call(h), call(hand())
		for k := range h.i.Supply[:cap(h.i.Supply)] {
			h.i.Supply[:cap(h.i.Supply)][k] = 99
		}
		for k := range h.i.Arcs[:cap(h.i.Arcs)] {
			h.i.Arcs[:cap(h.i.Arcs)][k] = api.Arc{Low: 99}
		}
		clear(h.nodes)
		clear(h.arcs)
		if !slices.Equal(told.Supply, want.Supply) || !slices.Equal(told.Arcs, want.Arcs) {
			t.Errorf("%s: what it was handed is what it told", name)
		}
		if again := call(hand()); !slices.Equal(again.Supply, want.Supply) || !slices.Equal(again.Arcs, want.Arcs) {
			t.Errorf("%s: what it was handed once was told later", name)
		}
	}
}

// TestBehindIsNotRead hands in lists that differ in nothing but what lies behind them.
func TestBehindIsNotRead(t *testing.T) {
	for name, call := range calls() {
		h := hand()
		bare := handed{
			api.Inst{Supply: slices.Clip(h.i.Supply), Arcs: slices.Clip(h.i.Arcs)},
			slices.Clip(h.nodes), slices.Clip(h.arcs),
		}
		told, want := call(h), call(bare)
		if !slices.Equal(told.Supply, want.Supply) || !slices.Equal(told.Arcs, want.Arcs) {
			t.Errorf("%s read what lies behind", name)
		}
		for _, n := range told.Supply[:cap(told.Supply)] {
			if n == 77 || n == 78 {
				t.Errorf("%s handed out what lies behind", name)
			}
		}
		for _, a := range told.Arcs[:cap(told.Arcs)] {
			if a.Low == 77 || a.Low == 78 {
				t.Errorf("%s handed out what lies behind", name)
			}
		}
	}
	h := hand()
	if inst.Right(h.i) != api.OK || inst.Span(h.i) != 14 || !inst.Same(h.i, several()) {
		t.Error("Right, Span or Same read what lies behind")
	}
}
