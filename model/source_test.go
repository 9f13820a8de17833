package model

import (
	"fmt"
	"math/rand/v2"
	"strings"

	"offcut/rat"
)

// scatter scatters numbers, names and models: the same ones each time.
type scatter struct{ from *rand.Rand }

func source(seed uint64) scatter {
	return scatter{rand.New(rand.NewPCG(seed, 8))}
}

func (s scatter) upTo(n int) int {
	return s.from.IntN(n)
}

// atLeast is what tells fractions whose numerator is that, at least.
func (s scatter) atLeast(low int) func() rat.Rat {
	return func() rat.Rat {
		a, _ := rat.Of(low+s.upTo(6-low), 1+s.upTo(4))
		if s.upTo(8) == 0 {
			return otherwise(a, s.upTo(4))
		}
		if s.upTo(20) == 0 {
			return rat.Mul(a, one("123456789012345678901234567890/7919"))
		}
		return a
	}
}

func (s scatter) row(long int, next func() rat.Rat) []rat.Rat {
	var all []rat.Rat
	for range long {
		all = append(all, next())
	}
	return all
}

// names are as many names, all of them others.
func (s scatter) names(many int) []string {
	var all []string
	for k := range many {
		tail := fmt.Sprint("_", k)
		name := string(rune('a'+s.upTo(26))) + strings.Repeat("q9_z", s.upTo(4))
		all = append(all, name[:min(len(name), 16-len(tail))]+tail)
	}
	return all
}

// rightModel is a model that may be.
func (s scatter) rightModel(vars, rows int) Model {
	m := Model{s.names(vars), s.row(vars, s.atLeast(-4)), nil}
	for _, name := range s.names(rows) {
		coef := s.row(vars, s.atLeast(-4))
		for k := range coef {
			if s.upTo(3) == 0 {
				coef[k] = otherwise(rat.Int(0), s.upTo(4))
			}
		}
		m.Rows = append(m.Rows, Row{name, coef, s.upTo(3) - 1, s.atLeast(-4)()})
	}
	return m
}

// anyModel is a small model, that may be or not.
func (s scatter) anyModel() Model {
	m := s.rightModel(s.upTo(4), s.upTo(3))
	if s.upTo(3) == 0 {
		m.Cost = s.row(s.upTo(5), s.atLeast(-4))
	}
	for k := range m.Rows {
		if s.upTo(4) == 0 {
			m.Rows[k].Coef = s.row(s.upTo(5), s.atLeast(-4))
		}
		if s.upTo(4) == 0 {
			m.Rows[k].Rel = s.upTo(1000) - 500
		}
	}
	return m
}
