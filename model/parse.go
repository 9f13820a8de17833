package model

import (
	"strings"

	"offcut/api"
	"offcut/lines"
	"offcut/rat"
	"offcut/vec"
)

// The words of a model's text.
const (
	least   = "min"
	nothing = "0"
	plus    = "+"
	minus   = "-"
	nameEnd = ":"
)

// relWords is the word for each Rel, from -1 on.
var relWords = [...]string{"<=", "=", ">="}

// rels is what each relation says.
func rels() map[string]int {
	all := map[string]int{}
	for k, word := range relWords {
		all[word] = atMost + k
	}
	return all
}

// term is a number of a variable.
type term struct {
	name string
	v    rat.Rat
}

// said is what a line says; the first one, that has the costs, says no more than a sum.
type said struct {
	name string
	sum  []term
	rel  int
	b    rat.Rat
}

// Parse reads a model.
func Parse(text string) (Model, int, api.Errno) {
	all, e := lines.All(text)
	if e != api.OK {
		return Model{}, 0, e
	}
	if len(all) == 0 {
		return Model{}, 0, api.ErrForm
	}
	r := reader{rels: rels(), places: map[string]int{}, rows: map[string]int{}}
	for _, line := range all {
		if e := r.take(line.Words); e != api.OK {
			return Model{}, line.At, e
		}
	}
	return r.model(), 0, api.OK
}

// reader is what was read so far, and the places of its variables and rows. The numbers are put into rows at the end alone:
// only then it is known how many variables there are.
type reader struct {
	rels   map[string]int
	lines  []said
	vars   []string
	places map[string]int
	rows   map[string]int
}

// take reads one line more. Each error is looked for in the whole line, ahead of the next one.
func (r *reader) take(words []string) api.Errno {
	line, is := r.read(words)
	if !is {
		return api.ErrForm
	}
	if r.twice(line) {
		return api.ErrName
	}
	r.add(line)
	if len(r.vars) > api.MaxVars || len(r.rows) > api.MaxRows {
		return api.ErrMany
	}
	return api.OK
}

// read is what the next line says.
func (r *reader) read(words []string) (said, bool) {
	if len(r.lines) > 0 {
		return r.readRow(words)
	}
	if words[0] != least {
		return said{}, false
	}
	sum, is := readSum(words[1:])
	return said{sum: sum}, is
}

func (r *reader) readRow(words []string) (said, bool) {
	end := len(words) - 2
	if end < 1 {
		return said{}, false
	}
	name, ended := strings.CutSuffix(words[0], nameEnd)
	sum, added := readSum(words[1:end])
	rel, known := r.rels[words[end]]
	b, is := lines.Number(words[end+1])
	if !ended || !lines.Name(name) || !added || !known || !is {
		return said{}, false
	}
	return said{name, sum, rel, b}, true
}

// readSum is the terms of a sum.
func readSum(words []string) ([]term, bool) {
	if len(words) == 1 && words[0] == nothing {
		return nil, true
	}
	sign := plus
	if len(words) > 0 && words[0] == minus {
		sign, words = minus, words[1:]
	}
	var sum []term
	for {
		t, long := readTerm(words)
		if long == 0 || sign != plus && sign != minus {
			return nil, false
		}
		if sign == minus {
			t.v = rat.Neg(t.v)
		}
		sum = append(sum, t)
		if long == len(words) {
			return sum, true
		}
		sign, words = words[long], words[long+1:]
	}
}

// readTerm is the term that words begin with, and how many of them it has: 0, if there is none.
func readTerm(words []string) (term, int) {
	if len(words) > 0 && lines.Name(words[0]) {
		return term{words[0], rat.Int(1)}, 1
	}
	// A -0 is not below 0, but has a - all the same.
	if len(words) < 2 || !lines.Name(words[1]) || strings.Contains(words[0], minus) {
		return term{}, 0
	}
	v, is := lines.Number(words[0])
	if !is {
		return term{}, 0
	}
	return term{words[1], v}, 2
}

// twice tells whether a line has a name that it must not have again.
func (r *reader) twice(line said) bool {
	if _, is := r.rows[line.name]; is {
		return true
	}
	seen := map[string]int{}
	for _, t := range line.sum {
		seen[t.name]++
	}
	return len(seen) < len(line.sum)
}

func (r *reader) add(line said) {
	if len(r.lines) > 0 {
		r.rows[line.name] = len(r.rows)
	}
	r.lines = append(r.lines, line)
	for _, t := range line.sum {
		if _, known := r.places[t.name]; !known {
			r.places[t.name] = len(r.vars)
			r.vars = append(r.vars, t.name)
		}
	}
}

// model is what all lines say together.
func (r *reader) model() Model {
	m := Model{Vars: r.vars, Cost: r.numbers(r.lines[0].sum)}
	for _, line := range r.lines[1:] {
		m.Rows = append(m.Rows, Row{line.name, r.numbers(line.sum), line.rel, line.b})
	}
	return m
}

// numbers is what each variable has in a sum.
func (r *reader) numbers(sum []term) []rat.Rat {
	row := vec.Ints(make([]int, len(r.vars))...)
	for _, t := range sum {
		row[r.places[t.name]] = t.v
	}
	return row
}
