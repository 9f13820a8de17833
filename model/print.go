package model

import (
	"strings"

	"offcut/api"
	"offcut/lines"
	"offcut/rat"
	"offcut/vec"
)

// Print writes a model.
func Print(m Model) (string, api.Errno) {
	if !Right(m) {
		return "", api.ErrArg
	}
	var text strings.Builder
	write := func(words ...string) {
		text.WriteString(lines.Join(words...))
		text.WriteByte('\n')
	}
	write(least, sumText(m.Vars, everyTerm(m.Cost)))
	for _, r := range m.Rows {
		write(r.Name+nameEnd, sumText(m.Vars, vec.Sparse(r.Coef)), relWords[r.Rel-atMost], rat.Text(r.B))
	}
	return text.String(), api.OK
}

// everyTerm is a term for each place, those with a 0 too: the first line names all variables, so that they are read in their order.
func everyTerm(row []rat.Rat) []vec.Term {
	l := make([]vec.Term, len(row))
	for k, v := range row {
		l[k] = vec.Term{At: k, V: v}
	}
	return l
}

// sumText is a sum of terms, as a text.
func sumText(vars []string, l []vec.Term) string {
	if len(l) == 0 {
		return nothing
	}
	var words []string
	for k, t := range l {
		size := t.V
		if rat.Sign(size) < 0 {
			size = rat.Neg(size)
			words = append(words, minus)
		} else if k > 0 {
			words = append(words, plus)
		}
		words = append(words, rat.Text(size), vars[t.At])
	}
	return lines.Join(words...)
}
