package file_test

import (
	"math/big"
	"reflect"
	"regexp"
	"slices"
	"strings"
	"testing"

	"quittance/api"
	"quittance/file"
)

// A plain telling of the chapter's words: each line is held against the forms as they are written there, and each kind of error is asked of by itself.

const number = `(0|-?[1-9][0-9]*)`

// forms are those of lines, by the problem's kind ("" ahead of a p).
var forms = map[string]map[string]*regexp.Regexp{
	"":    {"p": regexp.MustCompile(`\Ap (min|max) ` + number + ` ` + number + `\z`)},
	"min": {"n": regexp.MustCompile(`\An ` + number + ` ` + number + `\z`), "a": regexp.MustCompile(`\Aa` + strings.Repeat(` `+number, 5) + `\z`)},
	"max": {"n": regexp.MustCompile(`\An ` + number + ` (s|t)\z`), "a": regexp.MustCompile(`\Aa` + strings.Repeat(` `+number, 3) + `\z`)},
}

// plain is what is known after some lines.
type plain struct {
	kind  string
	arcs  int64
	prob  api.Prob
	had   map[int]bool
	s, t  bool
	first string
	parts []string
}

// in says whether a word is a number from least to most.
func in(s string, least, most int64) bool {
	n, _ := new(big.Int).SetString(s, 10)
	return n.Cmp(big.NewInt(least)) >= 0 && n.Cmp(big.NewInt(most)) <= 0
}

// value is the number of a word.
func value(s string) int64 {
	n, _ := new(big.Int).SetString(s, 10)
	return n.Int64()
}

// form says whether a line has one.
func (p *plain) form(line string) bool {
	p.first, _, _ = strings.Cut(line, " ")
	if p.first == "c" {
		return true
	}
	kind := p.kind
	if p.first == "p" {
		kind = ""
	} else if kind == "" {
		return p.first == "n" || p.first == "a"
	}
	f := forms[kind][p.first]
	if f == nil {
		return false
	}
	p.parts = f.FindStringSubmatch(line)
	return p.parts != nil
}

// order says whether such a line may stand here.
func (p *plain) order() bool {
	switch p.first {
	case "p":
		return p.kind == ""
	case "n":
		return p.kind != "" && len(p.prob.Inst.Arcs) == 0
	case "a":
		return p.kind != "" && int64(len(p.prob.Inst.Arcs)) < p.arcs
	}
	return true
}

// size says whether each number is from where to where it has to be.
func (p *plain) size() bool {
	w, nodes := p.parts, int64(len(p.prob.Inst.Supply))
	switch p.first + p.kind {
	case "p":
		return in(w[2], 1, 64) && in(w[3], 0, 256)
	case "nmin":
		return in(w[1], 1, nodes) && in(w[2], -1<<31, 1<<31)
	case "nmax":
		return in(w[1], 1, nodes)
	case "amin":
		return in(w[1], 1, nodes) && in(w[2], 1, nodes) && in(w[3], 0, 1<<31) &&
			(w[4] == "-1" || in(w[4], value(w[3]), 1<<31)) && in(w[5], -1<<31, 1<<31)
	case "amax":
		return in(w[1], 1, nodes) && in(w[2], 1, nodes) && (w[3] == "-1" || in(w[3], 0, 1<<31))
	}
	return true
}

// once says whether a line tells what was not told yet.
func (p *plain) once() bool {
	if p.first != "n" {
		return true
	}
	letter := p.kind == "max" && (p.parts[2] == "s" && p.s || p.parts[2] == "t" && p.t)
	return !p.had[int(value(p.parts[1]))] && !letter
}

// take takes a line in which nothing is wrong.
func (p *plain) take() {
	w := p.parts
	inf := func(s string) int64 {
		if s == "-1" {
			return 1 << 62
		}
		return value(s)
	}
	switch p.first + p.kind {
	case "p":
		p.kind, p.arcs, p.had = w[1], value(w[3]), map[int]bool{}
		p.prob = api.Prob{Max: w[1] == "max", Inst: api.Inst{Supply: make([]int64, value(w[2]))}}
	case "nmin":
		p.had[int(value(w[1]))] = true
		p.prob.Inst.Supply[value(w[1])-1] = value(w[2])
	case "nmax":
		p.had[int(value(w[1]))] = true
		if w[2] == "s" {
			p.s, p.prob.S = true, int(value(w[1]))-1
		} else {
			p.t, p.prob.T = true, int(value(w[1]))-1
		}
	case "amin":
		p.prob.Inst.Arcs = append(p.prob.Inst.Arcs, api.Arc{From: int(value(w[1])) - 1, To: int(value(w[2])) - 1, Low: value(w[3]), Cap: inf(w[4]), Cost: value(w[5])})
	case "amax":
		p.prob.Inst.Arcs = append(p.prob.Inst.Arcs, api.Arc{From: int(value(w[1])) - 1, To: int(value(w[2])) - 1, Cap: inf(w[3])})
	}
}

// told is what Parse has to tell of a text.
func told(s string) (api.Prob, api.Errno, int) {
	if len(s) > 60000 {
		return api.Prob{}, api.ErrLong, 0
	}
	var p plain
	lines := strings.Split(s, "\n")
	if lines[len(lines)-1] == "" {
		lines = lines[:len(lines)-1]
	}
	for k, line := range lines {
		switch {
		case !p.form(line):
			return api.Prob{}, api.ErrForm, k + 1
		case !p.order():
			return api.Prob{}, api.ErrOrder, k + 1
		case !p.size():
			return api.Prob{}, api.ErrBig, k + 1
		case !p.once():
			return api.Prob{}, api.ErrTwice, k + 1
		}
		p.take()
	}
	sum := new(big.Int)
	for _, n := range p.prob.Inst.Supply {
		sum.Add(sum, big.NewInt(n))
	}
	switch {
	case p.kind == "" || int64(len(p.prob.Inst.Arcs)) < p.arcs || p.kind == "max" && !(p.s && p.t):
		return api.Prob{}, api.ErrOrder, 0
	case sum.Sign() != 0:
		return api.Prob{}, api.ErrSum, 0
	}
	return p.prob, api.OK, 0
}

// same says whether two problems are, whether their lists are nil or empty.
func same(a, b api.Prob) bool {
	return a.Max == b.Max && a.S == b.S && a.T == b.T &&
		slices.Equal(a.Inst.Supply, b.Inst.Supply) && slices.Equal(a.Inst.Arcs, b.Inst.Arcs)
}

// nought says whether a problem is the zero value.
func nought(p api.Prob) bool {
	return reflect.DeepEqual(p, api.Prob{})
}

// holds says whether Parse tells of a text what it has to.
func holds(t *testing.T, s string) bool {
	t.Helper()
	want, wantWrong, wantLine := told(s)
	is, wrong, line := file.Parse(s)
	if wrong != wantWrong || line != wantLine || !same(is, want) || wrong != api.OK && !nought(is) {
		t.Errorf("Parse of %.300q: %v, %d, %d; not %v, %d, %d", s, is, wrong, line, want, wantWrong, wantLine)
		return false
	}
	return true
}
