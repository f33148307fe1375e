package file_test

import (
	"math"
	"slices"
	"strconv"
	"strings"
	"testing"

	"quittance/api"
	"quittance/file"
)

// lines is the text of some, each with its end behind.
func lines(l ...string) string {
	if len(l) == 0 {
		return ""
	}
	return strings.Join(l, "\n") + "\n"
}

func TestExample(t *testing.T) {
	s := lines("p min 2 1", "n 1 3", "n 2 -3", "a 1 2 0 -1 5")
	want := api.Prob{Inst: api.Inst{Supply: []int64{3, -3}, Arcs: []api.Arc{{From: 0, To: 1, Cap: 1 << 62, Cost: 5}}}}
	if p, wrong, line := file.Parse(s); !same(p, want) || wrong != api.OK || line != 0 {
		t.Errorf("Parse: %v, %d, %d", p, wrong, line)
	}
	if is, wrong := file.Print(want); is != s || wrong != api.OK {
		t.Errorf("Print: %q, %d", is, wrong)
	}
}

// fine are files in which nothing is wrong, and their problems.
var fine = []struct {
	s string
	p api.Prob
}{
	{"p min 1 0", api.Prob{Inst: api.Inst{Supply: []int64{0}}}},
	{"p min 3 2\nn 3 -7\nn 1 7\na 1 3 2 9 -4\na 2 2 0 0 0\n", api.Prob{Inst: api.Inst{
		Supply: []int64{7, 0, -7},
		Arcs:   []api.Arc{{From: 0, To: 2, Low: 2, Cap: 9, Cost: -4}, {From: 1, To: 1}},
	}}},
	{"c of all\nc\np min 2 3\nc p min 2 3\nn 1 0\nc n\nn 2 0\na 2 1 5 5 1\nc a\na 2 1 5 -1 1\na 2 1 5 5 1\nc \xff\x00", api.Prob{Inst: api.Inst{
		Supply: []int64{0, 0},
		Arcs:   []api.Arc{{From: 1, Low: 5, Cap: 5, Cost: 1}, {From: 1, Low: 5, Cap: 1 << 62, Cost: 1}, {From: 1, Low: 5, Cap: 5, Cost: 1}},
	}}},
	{"p max 2 0\nn 1 s\nn 2 t\n", api.Prob{Max: true, Inst: api.Inst{Supply: []int64{0, 0}}, T: 1}},
	{"p max 4 3\nn 2 t\nn 4 s\na 4 2 8\na 1 1 -1\na 3 4 0", api.Prob{Max: true, S: 3, T: 1, Inst: api.Inst{
		Supply: []int64{0, 0, 0, 0},
		Arcs:   []api.Arc{{From: 3, To: 1, Cap: 8}, {From: 0, To: 0, Cap: 1 << 62}, {From: 2, To: 3}},
	}}},
}

func TestParseOfFineFiles(t *testing.T) {
	for _, c := range fine {
		if p, wrong, line := file.Parse(c.s); !same(p, c.p) || wrong != api.OK || line != 0 {
			t.Errorf("Parse of %q: %v, %d, %d", c.s, p, wrong, line)
		}
		holds(t, c.s)
	}
}

// fault is a text, and the error and the line that Parse has to tell of it.
type fault struct {
	s     string
	wrong api.Errno
	line  int
}

// check holds Parse of texts in which much is wrong, and the plain telling, against what has to be told.
func check(t *testing.T, l []fault) {
	t.Helper()
	for _, c := range l {
		p, wrong, line := file.Parse(c.s)
		if wrong != c.wrong || line != c.line || wrong != api.OK && !nought(p) {
			t.Errorf("Parse of %.300q: %v, %d, %d; not %d, %d", c.s, p, wrong, line, c.wrong, c.line)
		}
		holds(t, c.s)
	}
}

func TestNoLinesAndLinesThatTellNothing(t *testing.T) {
	check(t, []fault{
		{"", api.ErrOrder, 0},
		{"c", api.ErrOrder, 0},
		{"c\n", api.ErrOrder, 0},
		{"c p min 1 0\nc n 1 0\nc  \nc\r\nc", api.ErrForm, 4},
		{"c p min 1 0\nc n 1 0\nc  \nc \r\nc", api.ErrOrder, 0},
		{"\n", api.ErrForm, 1},
		{"c\n\np min 1 0", api.ErrForm, 2},
		{"p min 1 0\n\n", api.ErrForm, 2},
		{"p min 1 0\n ", api.ErrForm, 2},
		{"p min 1 0\nc", api.OK, 0},
		{" c", api.ErrForm, 1},
		{"C", api.ErrForm, 1},
		{"cc", api.ErrForm, 1},
		{"c\tof all", api.ErrForm, 1},
	})
}

func TestFormOfLines(t *testing.T) {
	check(t, []fault{
		// Another first word, ahead of a p and behind it.
		{"x", api.ErrForm, 1},
		{"P min 1 0", api.ErrForm, 1},
		{"pmin 1 0", api.ErrForm, 1},
		{"na 1 0", api.ErrForm, 1},
		{"min 1 0", api.ErrForm, 1},
		{"1", api.ErrForm, 1},
		{"p min 1 0\nx", api.ErrForm, 2},
		{"p min 1 0\nN 1 0", api.ErrForm, 2},
		{"p min 1 0\nan 1 0", api.ErrForm, 2},
		// Other words of a p, too many, too few.
		{"p", api.ErrForm, 1},
		{"p ", api.ErrForm, 1},
		{"p min", api.ErrForm, 1},
		{"p min 1", api.ErrForm, 1},
		{"p min 1 0 0", api.ErrForm, 1},
		{"p min 1 0 ", api.ErrForm, 1},
		{"p  min 1 0", api.ErrForm, 1},
		{"p min  1 0", api.ErrForm, 1},
		{" p min 1 0", api.ErrForm, 1},
		{"p min 1 0\r\n", api.ErrForm, 1},
		{"p mid 1 0", api.ErrForm, 1},
		{"p Min 1 0", api.ErrForm, 1},
		{"p 1 0 min", api.ErrForm, 1},
		{"p asn 1 0", api.ErrForm, 1},
		{"p min 01 0", api.ErrForm, 1},
		{"p min 1 -0", api.ErrForm, 1},
		{"p min 1 00", api.ErrForm, 1},
		{"p min +1 0", api.ErrForm, 1},
		{"p min 1 0x0", api.ErrForm, 1},
		{"p min 1.0 0", api.ErrForm, 1},
		{"p max one 0", api.ErrForm, 1},
		{"p max 1 \xff", api.ErrForm, 1},
		// An n of min.
		{"p min 2 0\nn", api.ErrForm, 2},
		{"p min 2 0\nn 1", api.ErrForm, 2},
		{"p min 2 0\nn 1 0 0", api.ErrForm, 2},
		{"p min 2 0\nn 1 0 ", api.ErrForm, 2},
		{"p min 2 0\nn  1 0", api.ErrForm, 2},
		{"p min 2 0\nn 1 ", api.ErrForm, 2},
		{"p min 2 0\nn 1 s", api.ErrForm, 2},
		{"p min 2 0\nn s 1", api.ErrForm, 2},
		{"p min 2 0\nn 01 1", api.ErrForm, 2},
		{"p min 2 0\nn 1 01", api.ErrForm, 2},
		// An n of max.
		{"p max 2 0\nn", api.ErrForm, 2},
		{"p max 2 0\nn 1", api.ErrForm, 2},
		{"p max 2 0\nn 1 s t", api.ErrForm, 2},
		{"p max 2 0\nn 1 s ", api.ErrForm, 2},
		{"p max 2 0\nn 1 1", api.ErrForm, 2},
		{"p max 2 0\nn 1 S", api.ErrForm, 2},
		{"p max 2 0\nn 1 st", api.ErrForm, 2},
		{"p max 2 0\nn 1 ", api.ErrForm, 2},
		{"p max 2 0\nn s 1", api.ErrForm, 2},
		{"p max 2 0\nn s s", api.ErrForm, 2},
		{"p max 2 0\nn +1 t", api.ErrForm, 2},
		// An a of min.
		{"p min 2 9\na", api.ErrForm, 2},
		{"p min 2 9\na 1 2 0 1", api.ErrForm, 2},
		{"p min 2 9\na 1 2 1", api.ErrForm, 2},
		{"p min 2 9\na 1 2 0 1 0 0", api.ErrForm, 2},
		{"p min 2 9\na 1 2 0 1 0 ", api.ErrForm, 2},
		{"p min 2 9\na 1  2 0 1 0", api.ErrForm, 2},
		{"p min 2 9\na 1  0 1 0", api.ErrForm, 2},
		{"p min 2 9\na one 2 0 1 0", api.ErrForm, 2},
		{"p min 2 9\na 1 - 0 1 0", api.ErrForm, 2},
		{"p min 2 9\na 1 2 -0 1 0", api.ErrForm, 2},
		{"p min 2 9\na 1 2 0 -01 0", api.ErrForm, 2},
		{"p min 2 9\na 1 2 0 inf 0", api.ErrForm, 2},
		{"p min 2 9\na 1 2 0 1 1e3", api.ErrForm, 2},
		// An a of max.
		{"p max 2 9\na", api.ErrForm, 2},
		{"p max 2 9\na 1 2", api.ErrForm, 2},
		{"p max 2 9\na 1 2 0 1", api.ErrForm, 2},
		{"p max 2 9\na 1 2 0 1 0", api.ErrForm, 2},
		{"p max 2 9\na 1 2 0 ", api.ErrForm, 2},
		{"p max 2 9\na 1 2 ", api.ErrForm, 2},
		{"p max 2 9\na s 2 0", api.ErrForm, 2},
		{"p max 2 9\na 1 t 0", api.ErrForm, 2},
		{"p max 2 9\na 1 2 +0", api.ErrForm, 2},
	})
}

func TestOrderOfLines(t *testing.T) {
	check(t, []fault{
		// No p: of what begins with n or a nothing else is looked at.
		{"n 1 0", api.ErrOrder, 1},
		{"a 1 1 0 0 0", api.ErrOrder, 1},
		{"c\nn", api.ErrOrder, 2},
		{"c\na", api.ErrOrder, 2},
		{"n x", api.ErrOrder, 1},
		{"n  ", api.ErrOrder, 1},
		{"a 99999999999999999999", api.ErrOrder, 1},
		{"a 1 1 0 0 0 0 0 0 0 0\xff\r", api.ErrOrder, 1},
		{"n\r", api.ErrForm, 1},
		// Two p.
		{"p min 1 0\np min 1 0", api.ErrOrder, 2},
		{"p min 1 0\nc\np max 2 1", api.ErrOrder, 3},
		{"p max 2 1\nn 1 s\nn 2 t\na 1 2 3\np max 2 1", api.ErrOrder, 5},
		// An n behind an a.
		{"p min 2 2\nn 1 0\na 1 2 0 1 0\nn 2 0", api.ErrOrder, 4},
		{"p min 2 1\na 1 2 0 1 0\nc\nn 2 0", api.ErrOrder, 4},
		{"p max 2 1\nn 1 s\na 1 2 1\nn 2 t", api.ErrOrder, 4},
		{"p max 2 1\na 1 2 1\nn 2 t", api.ErrOrder, 3},
		// One a too many.
		{"p min 2 0\na 1 2 0 1 0", api.ErrOrder, 2},
		{"p min 2 1\na 1 2 0 1 0\na 1 2 0 1 0", api.ErrOrder, 3},
		{"p max 2 0\na 1 2 1", api.ErrOrder, 2},
		{"p max 2 1\nn 1 s\nn 2 t\na 1 2 1\nc\na 1 2 1", api.ErrOrder, 6},
	})
}

func TestEnd(t *testing.T) {
	check(t, []fault{
		// One a too few, or many.
		{"p min 2 1", api.ErrOrder, 0},
		{"p min 2 2\na 1 2 0 1 0\n", api.ErrOrder, 0},
		{"p min 2 256\na 1 2 0 1 0\n", api.ErrOrder, 0},
		{"p max 2 2\nn 1 s\nn 2 t\na 1 2 1", api.ErrOrder, 0},
		{"p max 2 1\nn 1 s\nn 2 t", api.ErrOrder, 0},
		// s or t lacking.
		{"p max 1 0", api.ErrOrder, 0},
		{"p max 2 0\nn 1 s", api.ErrOrder, 0},
		{"p max 2 0\nn 1 t", api.ErrOrder, 0},
		{"p max 1 1\nn 1 s\na 1 1 1", api.ErrOrder, 0},
		{"p max 2 1\nn 2 t\na 1 2 1", api.ErrOrder, 0},
		// Supplies that are not 0 together.
		{"p min 1 0\nn 1 1", api.ErrSum, 0},
		{"p min 2 0\nn 1 3\nn 2 -4", api.ErrSum, 0},
		{"p min 2 0\nn 1 2147483648\nn 2 2147483648", api.ErrSum, 0},
		{"p min 2 0\nn 1 2147483648\nn 2 -2147483648", api.OK, 0},
		{"p min 3 1\nn 1 5\nn 2 -3\nn 3 -1\na 1 2 0 1 0", api.ErrSum, 0},
		{"p min 3 1\nn 1 5\nn 2 -3\nn 3 -2\na 1 2 0 1 0", api.OK, 0},
		// Both: the order is told.
		{"p min 1 1\nn 1 1", api.ErrOrder, 0},
		{"p min 2 2\nn 1 3\nn 2 -4\na 1 2 0 1 0", api.ErrOrder, 0},
	})
}

func TestSumOfAllNodes(t *testing.T) {
	l := []string{"p min 64 0"}
	for id := 1; id <= 64; id++ {
		l = append(l, "n "+strconv.Itoa(id)+" 2147483648")
	}
	check(t, []fault{{lines(l...), api.ErrSum, 0}})
	for k := 1; k <= 32; k++ {
		l[k] = "n " + strconv.Itoa(k) + " -2147483648"
	}
	check(t, []fault{{lines(l...), api.OK, 0}, {lines(l[:64]...), api.ErrSum, 0}})
}

func TestTwice(t *testing.T) {
	check(t, []fault{
		{"p min 2 0\nn 1 0\nn 1 0", api.ErrTwice, 3},
		{"p min 2 0\nn 1 3\nn 2 -3\nn 1 3", api.ErrTwice, 4},
		{"p min 2 0\nn 2 3\nc\nn 2 -3", api.ErrTwice, 4},
		{"p min 2 0\nn 1 0\nn 2 0", api.OK, 0},
		{"p min 64 0\nn 64 0\nn 6 0\nn 4 0\nn 64 0", api.ErrTwice, 5},
		// Of max: a letter, or an ID.
		{"p max 3 0\nn 1 s\nn 2 s", api.ErrTwice, 3},
		{"p max 3 0\nn 1 t\nn 2 t", api.ErrTwice, 3},
		{"p max 3 0\nn 1 s\nn 1 t", api.ErrTwice, 3},
		{"p max 3 0\nn 2 t\nn 2 s", api.ErrTwice, 3},
		{"p max 3 0\nn 1 s\nn 1 s", api.ErrTwice, 3},
		{"p max 3 0\nn 1 s\nn 2 t\nn 3 s", api.ErrTwice, 4},
		{"p max 3 0\nn 1 s\nn 2 t\nn 3 t", api.ErrTwice, 4},
		{"p max 3 0\nn 1 s\nn 3 t", api.OK, 0},
		{"p max 1 0\nn 1 s\nn 1 t", api.ErrTwice, 3},
	})
}

// TestFirstErrorOfALine looks at lines in which two things, or more, are wrong.
func TestFirstErrorOfALine(t *testing.T) {
	const (
		great = "99999999999999999999"
		min   = "p min 2 2\nn 1 0\n"
		max   = "p max 2 2\nn 1 s\n"
		arc   = "a 1 2 0 1 0\n"
	)
	check(t, []fault{
		// Form and order.
		{min + "p mid 2 2", api.ErrForm, 3},
		{min + "p min 2", api.ErrForm, 3},
		{min + "p min 2 x", api.ErrForm, 3},
		{min + arc + "n 1", api.ErrForm, 4},
		{min + arc + "n 1 x", api.ErrForm, 4},
		{min + arc + arc + "a 1 2 0 1", api.ErrForm, 5},
		{max + "a 1 2 1\nn 2 x", api.ErrForm, 4},
		{max + "a 1 2 1\na 1 2 1\na 1 2 x", api.ErrForm, 5},
		// Form and a number that is too great: in front, and behind.
		{"p min 65 x", api.ErrForm, 1},
		{"p min " + great + " x", api.ErrForm, 1},
		{"p min x " + great, api.ErrForm, 1},
		{"p mid 65 257", api.ErrForm, 1},
		{min + "n 3 x", api.ErrForm, 3},
		{min + "n x " + great, api.ErrForm, 3},
		{min + "n " + great + " x", api.ErrForm, 3},
		{min + "n " + great, api.ErrForm, 3},
		{min + "a 3 3 -1 -2 x", api.ErrForm, 3},
		{min + "a x " + great + " 0 0 0", api.ErrForm, 3},
		{min + "a " + great + " 1 0 x 0", api.ErrForm, 3},
		{max + "n 3 x", api.ErrForm, 3},
		{max + "n " + great + " x", api.ErrForm, 3},
		{max + "a 3 " + great + " x", api.ErrForm, 3},
		{max + "a " + great, api.ErrForm, 3},
		// Form and twice.
		{min + "n 1 x", api.ErrForm, 3},
		{max + "n 1 x", api.ErrForm, 3},
		{max + "n x s", api.ErrForm, 3},
		// Order and a number that is too great.
		{min + "p min 65 0", api.ErrOrder, 3},
		{min + "p min 1 " + great, api.ErrOrder, 3},
		{min + arc + "n 3 0", api.ErrOrder, 4},
		{min + arc + "n 1 " + great, api.ErrOrder, 4},
		{min + arc + arc + "a 3 3 -1 -2 " + great, api.ErrOrder, 5},
		{max + "a 1 2 1\nn 3 t", api.ErrOrder, 4},
		{max + "a 1 2 1\na 1 2 1\na 0 0 -2", api.ErrOrder, 5},
		{"n 65 " + great, api.ErrOrder, 1},
		// Order and twice.
		{min + arc + "n 1 0", api.ErrOrder, 4},
		{max + "a 1 2 1\nn 1 s", api.ErrOrder, 4},
		// Too great and twice.
		{min + "n 1 " + great, api.ErrBig, 3},
		{min + "n 1 2147483649", api.ErrBig, 3},
		{max + "n 3 s", api.ErrBig, 3},
		{max + "n " + great + " s", api.ErrBig, 3},
	})
}

// TestFirstLine looks at files of which more than one line is wrong: the first is told, whatever is wrong there; what is wrong at the end is told behind all.
func TestFirstLine(t *testing.T) {
	faulty := []fault{
		{"p min 1 1", api.ErrOrder, 0},
		{"x", api.ErrForm, 0},
		{"n 0 1", api.ErrBig, 0},
		{"n 1 1", api.ErrTwice, 0},
	}
	for _, first := range faulty {
		for _, second := range faulty {
			s := lines("p min 2 1", "n 1 1", first.s, "c", second.s)
			check(t, []fault{{s, first.wrong, 3}})
		}
	}
}

// place is one of a number, in a file of which all else is right.
type place struct {
	name string
	// What stands ahead of it, and behind.
	ahead, behind string
	line          int
	// What may stand there, and what is just beyond.
	right, beyond []int64
	// What is told of it.
	is func(p api.Prob) int64
}

// places are all those of numbers, but of FLOW.
func places() []place {
	nodes := func(p api.Prob) int64 { return int64(len(p.Inst.Supply)) }
	s := func(p api.Prob) int64 { return int64(p.S) + 1 }
	t := func(p api.Prob) int64 { return int64(p.T) + 1 }
	from := func(p api.Prob) int64 { return int64(p.Inst.Arcs[0].From) + 1 }
	to := func(p api.Prob) int64 { return int64(p.Inst.Arcs[0].To) + 1 }
	low := func(p api.Prob) int64 { return p.Inst.Arcs[0].Low }
	cost := func(p api.Prob) int64 { return p.Inst.Arcs[0].Cost }
	most := func(p api.Prob) int64 {
		if p.Inst.Arcs[0].Cap == 1<<62 {
			return -1
		}
		return p.Inst.Arcs[0].Cap
	}
	const max = "p max 9 1\nn 1 s\nn 9 t\na "
	return []place{
		{"N of min", "p min ", " 0", 1, []int64{1, 2, 63, 64}, []int64{0, 65}, nodes},
		{"N of max", "p max ", " 0\nn 1 s\nn 2 t", 1, []int64{2, 3, 63, 64}, []int64{0, 65}, nodes},
		{"ID of one", "p min 1 0\nn ", " 0", 2, []int64{1}, []int64{0, 2}, nil},
		{"ID of nine", "p min 9 0\nn ", " 0", 2, []int64{1, 8, 9}, []int64{0, 10}, nil},
		{"ID of all", "p min 64 0\nn ", " 0", 2, []int64{1, 63, 64}, []int64{0, 65}, nil},
		{"s", "p max 9 0\nn 5 t\nn ", " s", 3, []int64{1, 4, 6, 9}, []int64{0, 10}, s},
		{"s of all", "p max 64 0\nn 5 t\nn ", " s", 3, []int64{1, 4, 6, 64}, []int64{0, 65}, s},
		{"t", "p max 9 0\nn 5 s\nn ", " t", 3, []int64{1, 4, 6, 9}, []int64{0, 10}, t},
		{"t of all", "p max 64 0\nn 5 s\nn ", " t", 3, []int64{1, 4, 6, 64}, []int64{0, 65}, t},
		{"U of min", "p min 9 1\na ", " 2 0 0 0", 2, []int64{1, 2, 9}, []int64{0, 10}, from},
		{"V of min", "p min 9 1\na 2 ", " 0 0 0", 2, []int64{1, 2, 9}, []int64{0, 10}, to},
		{"U of max", max, " 2 0", 4, []int64{1, 2, 9}, []int64{0, 10}, from},
		{"V of max", max + "2 ", " 0", 4, []int64{1, 2, 9}, []int64{0, 10}, to},
		{"U of all", "p min 64 1\na ", " 2 0 0 0", 2, []int64{1, 63, 64}, []int64{0, 65}, from},
		{"V of all", "p min 64 1\na 2 ", " 0 0 0", 2, []int64{1, 63, 64}, []int64{0, 65}, to},
		{"LOW of the greatest CAP", "p min 2 1\na 1 2 ", " 2147483648 0", 2, []int64{0, 1, 1 << 31}, []int64{-1, 1<<31 + 1}, low},
		{"LOW of another CAP", "p min 2 1\na 1 2 ", " 1000 0", 2, []int64{0, 999, 1000}, []int64{-1, 1001, 1 << 31}, low},
		{"LOW of CAP 0", "p min 2 1\na 1 2 ", " 0 0", 2, []int64{0}, []int64{-1, 1}, low},
		{"LOW of no CAP", "p min 2 1\na 1 2 ", " -1 0", 2, []int64{0, 1, 1 << 31}, []int64{-1, -2, 1<<31 + 1}, low},
		{"CAP of LOW 0", "p min 2 1\na 1 2 0 ", " 0", 2, []int64{-1, 0, 1, 1 << 31}, []int64{-2, 1<<31 + 1}, most},
		{"CAP of LOW 7", "p min 2 1\na 1 2 7 ", " 0", 2, []int64{-1, 7, 8, 1 << 31}, []int64{-2, 0, 6, 1<<31 + 1}, most},
		{"CAP of the greatest LOW", "p min 2 1\na 1 2 2147483648 ", " 0", 2, []int64{-1, 1 << 31}, []int64{-2, 0, 1<<31 - 1, 1<<31 + 1}, most},
		{"CAP of max", max + "1 2 ", "", 4, []int64{-1, 0, 1, 1 << 31}, []int64{-2, 1<<31 + 1}, most},
		{"COST", "p min 2 1\na 1 2 0 0 ", "", 2, []int64{-1 << 31, -1, 0, 1, 1 << 31}, []int64{-1<<31 - 1, 1<<31 + 1}, cost},
	}
}

// great are words of numbers that are beyond all bounds.
func great() []string {
	l := []string{"9223372036854775808", "-9223372036854775809", "18446744073709551617", "-18446744073709551617", "1" + strings.Repeat("0", 5000), "-1" + strings.Repeat("0", 5000)}
	for _, n := range []int64{1<<32 + 1, -1 << 32, 1 << 42, 1<<62 - 1, 1 << 62, 1<<62 + 1, -1 << 62, math.MaxInt64, math.MinInt64, math.MinInt64 + 1} {
		l = append(l, strconv.FormatInt(n, 10))
	}
	return l
}

// TestBounds holds each place's bounds: what is within is taken, what is beyond is told ErrBig.
func TestBounds(t *testing.T) {
	for _, c := range places() {
		for _, n := range c.right {
			s := c.ahead + strconv.FormatInt(n, 10) + c.behind
			p, wrong, line := file.Parse(s)
			if wrong != api.OK || line != 0 || c.is != nil && c.is(p) != n {
				t.Errorf("%s %d: %v, %d, %d", c.name, n, p, wrong, line)
			}
			holds(t, s)
		}
		words := great()
		for _, n := range c.beyond {
			words = append(words, strconv.FormatInt(n, 10))
		}
		for _, w := range words {
			check(t, []fault{{c.ahead + w + c.behind, api.ErrBig, c.line}})
		}
	}
}

// TestM holds how many arcs a file may tell of.
func TestM(t *testing.T) {
	for _, head := range []string{"p min 2 ", "p max 2 "} {
		arc := map[string]string{"p min 2 ": "a 1 2 0 1 0", "p max 2 ": "a 1 2 1"}[head]
		for _, many := range []int{0, 1, 2, 255, 256} {
			l := []string{head + strconv.Itoa(many)}
			if head == "p max 2 " {
				l = append(l, "n 1 s", "n 2 t")
			}
			at := len(l) + many
			l = append(l, slices.Repeat([]string{arc}, many+1)...)
			p, wrong, line := file.Parse(lines(l[:at]...))
			if wrong != api.OK || line != 0 || len(p.Inst.Arcs) != many {
				t.Errorf("%s%d: %v, %d, %d", head, many, p, wrong, line)
			}
			check(t, []fault{{lines(l...), api.ErrOrder, at + 1}})
			if many > 0 {
				check(t, []fault{{lines(l[:at-1]...), api.ErrOrder, 0}})
			}
		}
		for _, w := range append(great(), "-1", "257", "512") {
			check(t, []fault{{head + w, api.ErrBig, 1}})
		}
	}
}

// TestFlows holds what each node may have.
func TestFlows(t *testing.T) {
	for _, n := range []int64{0, 1, 7, 1<<31 - 1, 1 << 31} {
		for _, n := range []int64{n, -n} {
			s := "p min 2 0\nn 2 " + strconv.FormatInt(-n, 10) + "\nn 1 " + strconv.FormatInt(n, 10)
			p, wrong, line := file.Parse(s)
			if wrong != api.OK || line != 0 || !slices.Equal(p.Inst.Supply, []int64{n, -n}) {
				t.Errorf("FLOW %d: %v, %d, %d", n, p, wrong, line)
			}
			holds(t, s)
		}
	}
	for _, w := range append(great(), "2147483649", "-2147483649") {
		check(t, []fault{{"p min 2 0\nn 1 " + w, api.ErrBig, 2}, {"p min 2 0\nn 1 0\nn 2 " + w, api.ErrBig, 3}})
	}
}

func TestLength(t *testing.T) {
	const head = "p min 1 0\nc "
	at := func(n int) string { return head + strings.Repeat("x", n-len(head)) }
	runes := func(n int) string { return head + strings.Repeat("\u00e4", (n-len(head))/2) + strings.Repeat("x", n%2) }
	check(t, []fault{
		{at(59999), api.OK, 0},
		{at(60000), api.OK, 0},
		{at(60001), api.ErrLong, 0},
		{at(59999) + "\n", api.OK, 0},
		{at(60000) + "\n", api.ErrLong, 0},
		{runes(60000), api.OK, 0},
		{runes(60002), api.ErrLong, 0},
		// Whatever else is wrong.
		{strings.Repeat("x", 60000), api.ErrForm, 1},
		{strings.Repeat("x", 60001), api.ErrLong, 0},
		{"n\n" + strings.Repeat("c\n", 29999), api.ErrOrder, 1},
		{"n\n" + strings.Repeat("c\n", 29999) + "\n", api.ErrLong, 0},
		{strings.Repeat("\n", 60000), api.ErrForm, 1},
		{strings.Repeat("\n", 60001), api.ErrLong, 0},
		{strings.Repeat("c\n", 30000), api.ErrOrder, 0},
		{strings.Repeat("c\n", 29999) + "x", api.ErrForm, 30000},
		{strings.Repeat("c\n", 30000) + "x", api.ErrLong, 0},
		{strings.Repeat(" ", 1<<20), api.ErrLong, 0},
	})
}

// pieces are lines, right ones and wrong ones, that files are put together of.
func pieces(kind string) []string {
	l := []string{"c x", "", "p " + kind + " 2 1", "p " + kind + " 2 2", "p " + kind + " 3 0", "n 1 x", "x"}
	if kind == "max" {
		return append(l, "n 1 s", "n 1 t", "n 2 s", "n 2 t", "n 3 t", "a 1 2 5", "a 2 2 -1", "a 1 3 5", "a 1 2 -2", "a 1 2 0 1 0")
	}
	return append(l, "n 1 1", "n 2 -1", "n 2 0", "n 3 0", "a 1 2 0 1 0", "a 2 2 1 -1 0", "a 3 1 0 1 0", "a 1 2 2 1 0", "a 1 2 5")
}

// TestAllFilesOfFewLines holds all files of up to four of some lines, and such behind a p, against the plain telling.
func TestAllFilesOfFewLines(t *testing.T) {
	for _, kind := range []string{"min", "max"} {
		l := pieces(kind)
		for _, head := range []string{"", "p " + kind + " 2 1\n", "p " + kind + " 3 2\n"} {
			files := []string{head}
			for range 4 {
				var more []string
				for _, s := range files {
					for _, line := range l {
						more = append(more, s+line+"\n")
					}
				}
				files = more
				for _, s := range files {
					if !holds(t, s) {
						return
					}
				}
			}
		}
	}
}

// TestEachByteOfAFile holds files of which one byte is another one, lacks, or stands twice against the plain telling.
func TestEachByteOfAFile(t *testing.T) {
	files := []string{
		"p min 3 2\nn 1 12\nn 3 -12\na 1 2 1 9 -4\na 2 3 0 -1 10\n",
		"c x\np max 12 2\nn 11 s\nn 2 t\na 1 2 30\nc\na 12 3 -1",
	}
	for _, s := range files {
		for k := range s {
			holds(t, s[:k]+s[k+1:])
			for _, c := range "\x00\t\n\r +-.0123469;aceimnpstx\x7f" {
				holds(t, s[:k]+string(c)+s[k+1:])
				holds(t, s[:k]+string(c)+s[k:])
			}
			holds(t, s[:k])
			holds(t, s[k:])
			holds(t, s[:k]+"\xff"+s[k:])
		}
	}
}
