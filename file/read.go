package file

import (
	"math"

	"quittance/api"
	"quittance/word"
)

// fault is the error of a file, and the number of the line that has it.
type fault struct {
	api.Errno
	line int
}

// reader takes a file line by line.
type reader struct {
	// The number of the line that is read; 0 ahead of all, and behind.
	line int
	// Whether there was a p, and how many arcs it tells of.
	begun bool
	arcs  int
	// The IDs and letters that had an n. A number is written one way alone, so words tell IDs apart.
	had  map[string]bool
	prob api.Prob
}

// must ends the reading by a fault of the line that is read, unless all is right.
func (r *reader) must(right bool, wrong api.Errno) {
	if !right {
		panic(fault{wrong, r.line})
	}
}

// read takes all lines.
func (r *reader) read(lines []string) {
	takers := map[string]func(rest []string){
		"c": func([]string) {},
		"p": r.problem,
		"n": r.node,
		"a": r.arc,
	}
	r.had = map[string]bool{}
	for k, line := range lines {
		r.line = k + 1
		words := word.Words(line)
		take, known := takers[words[0]]
		r.must(known, api.ErrForm)
		take(words[1:])
	}
	r.line = 0
}

// problem takes what stands behind a p.
func (r *reader) problem(rest []string) {
	r.must(len(rest) == 3 && (rest[0] == "min" || rest[0] == "max"), api.ErrForm)
	l := r.numbers(rest[1:]...)
	r.must(!r.begun, api.ErrOrder)
	r.must(areSizes(l[0], l[1]), api.ErrBig)
	r.begun, r.arcs = true, int(l[1])
	r.prob.Max = rest[0] == "max"
	r.prob.Inst.Supply = make([]int64, l[0])
}

// node takes what stands behind an n.
func (r *reader) node(rest []string) {
	// Ahead of a p no form is told.
	r.must(r.begun, api.ErrOrder)
	r.must(len(rest) == 2, api.ErrForm)
	if r.prob.Max {
		r.letter(rest[0], rest[1])
	} else {
		r.supply(rest[0], rest[1])
	}
}

// supply takes an n of min.
func (r *reader) supply(id, flow string) {
	l := r.numbers(id, flow)
	r.must(len(r.prob.Inst.Arcs) == 0, api.ErrOrder)
	r.must(r.isID(l[0]) && isSigned(l[1]), api.ErrBig)
	r.once(id)
	r.prob.Inst.Supply[l[0]-1] = l[1]
}

// letter takes an n of max.
func (r *reader) letter(id, letter string) {
	r.must(letter == "s" || letter == "t", api.ErrForm)
	l := r.numbers(id)
	r.must(len(r.prob.Inst.Arcs) == 0, api.ErrOrder)
	r.must(r.isID(l[0]), api.ErrBig)
	r.once(id, letter)
	if letter == "s" {
		r.prob.S = int(l[0] - 1)
	} else {
		r.prob.T = int(l[0] - 1)
	}
}

// once takes note of words that no other n may have.
func (r *reader) once(words ...string) {
	for _, w := range words {
		r.must(!r.had[w], api.ErrTwice)
		r.had[w] = true
	}
}

// isID says whether n is the ID of a node.
func (r *reader) isID(n int64) bool { return isID(n, len(r.prob.Inst.Supply)) }

// arc takes what stands behind an a.
func (r *reader) arc(rest []string) {
	r.must(r.begun, api.ErrOrder)
	i := &r.prob.Inst
	told := r.row(rest)
	r.must(len(i.Arcs) < r.arcs, api.ErrOrder)
	r.must(told.fits(len(i.Supply)), api.ErrBig)
	i.Arcs = append(i.Arcs, told.arc())
}

// row are the numbers of an arc: of max Low and Cost are not told, and 0.
func (r *reader) row(rest []string) row {
	if r.prob.Max {
		r.must(len(rest) == 3, api.ErrForm)
		l := r.numbers(rest...)
		return row{u: l[0], v: l[1], cap: l[2]}
	}
	r.must(len(rest) == 5, api.ErrForm)
	l := r.numbers(rest...)
	return row{l[0], l[1], l[2], l[3], l[4]}
}

// numbers are those of words. What is too great for word.Number is too great for all that a file may have.
func (r *reader) numbers(words ...string) []int64 {
	var l []int64
	for _, w := range words {
		n, wrong := word.Number(w)
		r.must(wrong != api.ErrForm, api.ErrForm)
		if wrong == api.ErrBig {
			n = math.MaxInt64
		}
		l = append(l, n)
	}
	return l
}

// end looks at what there has to be behind all lines.
func (r *reader) end() {
	all := r.begun && len(r.prob.Inst.Arcs) == r.arcs
	if r.prob.Max {
		all = all && r.had["s"] && r.had["t"]
	}
	r.must(all, api.ErrOrder)
	// It can't go round: 64 numbers, none beyond 2^31, come to 2^37 at most.
	var sum int64
	for _, n := range r.prob.Inst.Supply {
		sum += n
	}
	r.must(sum == 0, api.ErrSum)
}
