package file_test

import (
	"slices"
	"sync"
	"testing"

	"quittance/api"
	"quittance/file"
)

// hand is a problem with more behind each list's length: what would be wrong, were it looked at.
func hand(p api.Prob) api.Prob {
	many := len(p.Inst.Supply)
	p.Inst.Supply = append(slices.Clone(p.Inst.Supply), 77, 78)[:many]
	many = len(p.Inst.Arcs)
	p.Inst.Arcs = append(slices.Clone(p.Inst.Arcs), api.Arc{From: 99, Low: -1}, api.Arc{To: 99, Cost: 1})[:many]
	return p
}

// whole is a problem that was handed, with what lies behind its lists, in new memory.
func whole(p api.Prob) api.Prob {
	p.Inst.Supply = slices.Clone(p.Inst.Supply[:len(p.Inst.Supply)+2])
	p.Inst.Arcs = slices.Clone(p.Inst.Arcs[:len(p.Inst.Arcs)+2])
	return p
}

// spoil changes all that lies in a problem's lists, and behind them.
func spoil(p api.Prob) {
	supplies := p.Inst.Supply[:cap(p.Inst.Supply)]
	for n := range supplies {
		supplies[n] = 99
	}
	arcs := p.Inst.Arcs[:cap(p.Inst.Arcs)]
	for a := range arcs {
		arcs[a] = api.Arc{From: 9, To: 9, Low: 9, Cap: 9, Cost: 9}
	}
}

// several are problems of both kinds, and some that are refused.
func several() []api.Prob {
	l := []api.Prob{scattered(false, 5, 7), scattered(true, 6, 9), supplies(0), most(), sized(true, 3, 1), sized(false, 64, 256)}
	for _, p := range refused() {
		if len(p.Inst.Supply) < 100 {
			l = append(l, p)
		}
	}
	return l
}

// TestPrintLeavesWhatItIsHanded holds what was handed to Print, and what lies behind it.
func TestPrintLeavesWhatItIsHanded(t *testing.T) {
	for _, p := range several() {
		handed := hand(p)
		was := whole(handed)
		s, wrong := file.Print(handed)
		if !same(whole(handed), was) {
			t.Errorf("Print changed %v", p)
		}
		p.Inst.Supply, p.Inst.Arcs = slices.Clip(p.Inst.Supply), slices.Clip(p.Inst.Arcs)
		if want, wantWrong := file.Print(p); s != want || wrong != wantWrong {
			t.Errorf("Print of %v with more behind: %q, %d, not %q, %d", p, s, wrong, want, wantWrong)
		}
	}
}

// TestPrintKeepsNothing changes what was handed to Print: what it told, and tells later of the same, stays.
func TestPrintKeepsNothing(t *testing.T) {
	for _, p := range several() {
		want, wantWrong := file.Print(hand(p))
		handed := hand(p)
		is, _ := file.Print(handed)
		spoil(handed)
		if is != want {
			t.Errorf("what is told of %v changed with it", p)
		}
		if again, wrong := file.Print(hand(p)); again != want || wrong != wantWrong {
			t.Errorf("Print of %v, what it was handed ahead of it changed: %q, %d", p, again, wrong)
		}
	}
}

// TestWhatParseTellsIsNew changes a problem that was told: what was told beside it, or is told later, stays.
func TestWhatParseTellsIsNew(t *testing.T) {
	for _, c := range fine {
		beside, _, _ := file.Parse(c.s)
		p, _, _ := file.Parse(c.s)
		spoil(p)
		if !same(beside, c.p) {
			t.Errorf("what is told of %q lies in what was told beside it", c.s)
		}
		if again, wrong, _ := file.Parse(c.s); !same(again, c.p) || wrong != api.OK {
			t.Errorf("Parse of %q, what it told ahead of it changed: %v, %d", c.s, again, wrong)
		}
	}
}

// TestParseKeepsNothing reads files in turn, and ones of which something is wrong: none knows of another.
func TestParseKeepsNothing(t *testing.T) {
	wrong := []string{"p min 2 1\nn 1 3\nn 2 -3\na 1 2 0 1 0\nn", "p max 3 1\nn 1 s\nn 2 t\na 1 2 5\nx", "p max 9 0\nn 9 s\nn 8 s", "n"}
	for _, ahead := range wrong {
		for _, c := range fine {
			file.Parse(ahead)
			if p, wrong, line := file.Parse(c.s); !same(p, c.p) || wrong != api.OK || line != 0 {
				t.Errorf("Parse of %q, behind that of %q: %v, %d, %d", c.s, ahead, p, wrong, line)
			}
		}
		holds(t, ahead)
	}
}

// TestAskedByMany reads and prints from several goroutines at once.
func TestAskedByMany(t *testing.T) {
	var all sync.WaitGroup
	for _, c := range fine {
		printed, _ := file.Print(c.p)
		for range 8 {
			all.Go(func() {
				p, _, _ := file.Parse(c.s)
				s, _ := file.Print(p)
				_, wrong, line := file.Parse(c.s + "\nx y")
				if !same(p, c.p) || s != printed || wrong != api.ErrForm || line == 0 {
					t.Errorf("%q among others: %v, %q, %d, %d", c.s, p, s, wrong, line)
				}
				spoil(p)
			})
		}
	}
	all.Wait()
}
