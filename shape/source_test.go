package shape

import (
	"fmt"
	"math/rand/v2"

	"offcut/model"
	"offcut/rat"
	"offcut/vec"
)

// scatter scatters numbers, models and problems: the same ones each time.
type scatter struct{ from *rand.Rand }

func source(seed uint64) scatter {
	return scatter{rand.New(rand.NewPCG(seed, 11))}
}

func (s scatter) upTo(n int) int {
	return s.from.IntN(n)
}

// number is a fraction whose numerator is low at least: mostly a small one, now and then told otherwise, a long one, or a zero Rat.
func (s scatter) number(low int) rat.Rat {
	a, _ := rat.Of(low+s.upTo(6-low), 1+s.upTo(4))
	switch s.upTo(20) {
	case 0, 1:
		return otherwise(a, s.upTo(4))
	case 2:
		return rat.Mul(a, one("123456789012345678901234567890/7919"))
	case 3:
		return rat.Rat{}
	}
	return a
}

func (s scatter) row(long, low int) []rat.Rat {
	var all []rat.Rat
	for range long {
		all = append(all, s.number(low))
	}
	return all
}

// kinds are what kinds of rows a model has.
func (s scatter) kinds(rows int) []int {
	all := make([]int, rows)
	some := [][]int{{-1, 0, 1}, {0}, {-1}, {1}, {-1, 1}}[s.upTo(5)]
	for k := range all {
		all[k] = some[s.upTo(len(some))]
	}
	return all
}

// model is one that may be.
func (s scatter) model(vars, rows int) model.Model {
	m := model.Model{Cost: s.row(vars, -4)}
	for k := range vars {
		m.Vars = append(m.Vars, fmt.Sprint("v", k))
	}
	for k, rel := range s.kinds(rows) {
		m.Rows = append(m.Rows, model.Row{Name: fmt.Sprint("r", k), Coef: s.row(vars, -4), Rel: rel, B: s.number(-4)})
	}
	return m
}

// done is a model for which numbers do, mostly: some rows hold with nothing left, some with more, and now and then one does not.
func (s scatter) done(vars, rows int) (model.Model, []rat.Rat) {
	m, x := s.model(vars, rows), s.row(vars, 0)
	for k, r := range m.Rows {
		left := rat.Int(0)
		if r.Rel != 0 && s.upTo(3) > 0 {
			left = rat.Mul(s.number(0), rat.Int(-r.Rel))
		}
		if s.upTo(4*rows) == 0 {
			left = s.number(-4)
		}
		m.Rows[k].B = rat.Add(vec.Dot(r.Coef, x), left)
	}
	return m, x
}

// problem is one that may be, of as many rows and places, and numbers that fit it, mostly.
func (s scatter) problem(rows, places int) (Problem, []rat.Rat) {
	p, x := Problem{C: s.row(places, -4)}, s.row(places, 0)
	for range rows {
		row := s.row(places, -4)
		b := vec.Dot(row, x)
		if s.upTo(3*rows) == 0 {
			b = s.number(-4)
		}
		p.A, p.B = append(p.A, row), append(p.B, b)
	}
	return p, x
}
