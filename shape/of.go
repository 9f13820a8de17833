package shape

import (
	"offcut/api"
	"offcut/model"
	"offcut/rat"
	"offcut/vec"
)

// Of is a model's problem.
func Of(m model.Model) (Problem, api.Errno) {
	if !model.Right(m) {
		return Problem{}, api.ErrArg
	}
	next := len(m.Vars)
	wide := widener(next + slacks(m))
	p := Problem{A: make([][]rat.Rat, len(m.Rows)), B: make([]rat.Rat, len(m.Rows)), C: wide(m.Cost)}
	for k, r := range m.Rows {
		p.A[k], p.B[k] = wide(r.Coef), lowest(r.B)
		if r.Rel != 0 {
			p.A[k][next] = unit(r)
			next++
		}
	}
	return p, api.OK
}

// slacks is how many places a model's problem has behind the variables.
func slacks(m model.Model) int {
	many := 0
	for _, r := range m.Rows {
		if r.Rel != 0 {
			many++
		}
	}
	return many
}

// unit is what a row that is no equation has at the place of its own.
func unit(r model.Row) rat.Rat {
	return rat.Int(-r.Rel)
}

// Back is the numbers of a model's variables.
func Back(m model.Model, x []rat.Rat) []rat.Rat {
	if len(x) < len(m.Vars) {
		return nil
	}
	return copied(x[:len(m.Vars)])
}

// Slack is the row of a model's problem that begins with numbers.
func Slack(m model.Model, x []rat.Rat) ([]rat.Rat, bool) {
	// Feasible is told of any model, but one that may not be has no problem.
	if !model.Right(m) || !model.Feasible(m, x) {
		return nil, false
	}
	next := len(x)
	all := widener(next + slacks(m))(x)
	for _, r := range m.Rows {
		if r.Rel != 0 {
			// What is left, divided by the unit; as that is 1 or -1, the product is the same.
			all[next] = rat.Mul(rat.Sub(r.B, vec.Dot(r.Coef, x)), unit(r))
			next++
		}
	}
	return all, true
}
