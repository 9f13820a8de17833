package notes

import (
	"math/rand/v2"

	"offcut/model"
	"offcut/rat"
)

// scatter scatters numbers, models and notes: the same ones each time.
type scatter struct{ from *rand.Rand }

func source(seed uint64) scatter {
	return scatter{rand.New(rand.NewPCG(seed, 9))}
}

func (s scatter) upTo(n int) int {
	return s.from.IntN(n)
}

// number is one that is not 0.
func (s scatter) number() rat.Rat {
	a, _ := rat.Of(1+s.upTo(5), 1+s.upTo(3))
	if s.upTo(2) == 0 {
		return rat.Neg(a)
	}
	return a
}

func (s scatter) nought() rat.Rat {
	all := noughts()
	return all[s.upTo(len(all))]
}

// model is one that may be; its rows have few variables each.
func (s scatter) model(vars, rows int) model.Model {
	m := many(vars, rows)
	for _, r := range m.Rows {
		for at := range r.Coef {
			r.Coef[at] = s.nought()
		}
		for range s.upTo(4) {
			if vars > 0 {
				r.Coef[s.upTo(vars)] = s.number()
			}
		}
	}
	return m
}

// notes are some that may be.
func (s scatter) notes(vars int) Notes {
	var n Notes
	most := 1 + s.upTo(8)
	begun := map[int]int{}
	for at := range vars {
		home := s.upTo(most + 1)
		if home == most {
			continue
		}
		k, is := begun[home]
		if !is {
			k = len(n.Blocks)
			begun[home] = k
			n.Blocks = append(n.Blocks, nil)
		}
		n.Blocks[k] = append(n.Blocks[k], at)
	}
	return n
}

// mixed are the places up to a number, in any order.
func (s scatter) mixed(n int) []int {
	return s.from.Perm(n)
}
