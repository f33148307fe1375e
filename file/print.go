package file

import (
	"slices"
	"strings"

	"quittance/api"
	"quittance/inst"
	"quittance/word"
)

// printable says whether a file tells such a problem.
func printable(p api.Prob) bool {
	i := p.Inst
	if inst.Right(i) != api.OK || !areSizes(int64(len(i.Supply)), int64(len(i.Arcs))) {
		return false
	}
	wrongSupply := func(n int64) bool { return !isSigned(n) || p.Max && n != 0 }
	wrongArc := func(a api.Arc) bool {
		return !rowOf(a).fits(len(i.Supply)) || p.Max && (a.Low != 0 || a.Cost != 0)
	}
	return !slices.ContainsFunc(i.Supply, wrongSupply) && !slices.ContainsFunc(i.Arcs, wrongArc) && endsRight(p)
}

// endsRight says whether a file tells such S and T.
func endsRight(p api.Prob) bool {
	if !p.Max {
		return p.S == 0 && p.T == 0
	}
	isNode := func(n int) bool { return n >= 0 && n < len(p.Inst.Supply) }
	return isNode(p.S) && isNode(p.T) && p.S != p.T
}

// sheet is what a file is printed to.
type sheet struct {
	strings.Builder
}

// line adds one of some words.
func (s *sheet) line(words ...string) {
	s.WriteString(word.Join(words, " "))
	s.WriteByte('\n')
}

// cheapest adds a file of min.
func (s *sheet) cheapest(i api.Inst) {
	s.line("p", "min", count(len(i.Supply)), count(len(i.Arcs)))
	for n, flow := range i.Supply {
		if flow != 0 {
			s.line("n", count(n+1), word.Text(flow))
		}
	}
	for _, a := range i.Arcs {
		r := rowOf(a)
		s.line("a", word.Text(r.u), word.Text(r.v), word.Text(r.low), word.Text(r.cap), word.Text(r.cost))
	}
}

// greatest adds a file of max.
func (s *sheet) greatest(p api.Prob) {
	s.line("p", "max", count(len(p.Inst.Supply)), count(len(p.Inst.Arcs)))
	s.line("n", count(p.S+1), "s")
	s.line("n", count(p.T+1), "t")
	for _, a := range p.Inst.Arcs {
		r := rowOf(a)
		s.line("a", word.Text(r.u), word.Text(r.v), word.Text(r.cap))
	}
}

// count is the word of a number of things.
func count(n int) string { return word.Text(int64(n)) }
