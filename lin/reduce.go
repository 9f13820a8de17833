package lin

import (
	"slices"

	"offcut/rat"
)

// Reduce is a matrix in its reduced form, and the places of its ones.
func Reduce(m [][]rat.Rat) ([][]rat.Rat, []int) {
	if _, _, is := Sides(m); !is {
		return nil, nil
	}
	rows := copied(m)
	places := stairs(rows)
	clearAbove(rows, places)
	for k, at := range places {
		divide(rows[k], rows[k][at])
	}
	return rows, places
}

// Rank is how many rows of the reduced form are not 0.
func Rank(m [][]rat.Rat) int {
	if _, _, is := Sides(m); !is {
		return 0
	}
	return len(stairs(copied(m)))
}

// copied is the rows in lists of their own, which may be exchanged and written over.
func copied(m [][]rat.Rat) [][]rat.Rat {
	rows := make([][]rat.Rat, len(m))
	for k, row := range m {
		rows[k] = make([]rat.Rat, len(row))
		copy(rows[k], row)
	}
	return rows
}

// stairs clears what stands below the first number of each row, so that it is further right than that of the row above, and tells the places of these numbers.
// Fractions would be brought to lowest terms at each step, which takes by far the longest: rows are kept as shorten leaves them instead, until the last step.
func stairs(rows [][]rat.Rat) []int {
	for _, row := range rows {
		shorten(row)
	}
	_, long, _ := Sides(rows)
	var places []int
columns:
	for at := range long {
		top := len(places)
		for k := top; ; k++ {
			if k == len(rows) {
				continue columns
			}
			if rat.Sign(rows[k][at]) != 0 {
				rows[top], rows[k] = rows[k], rows[top]
				break
			}
		}
		places = append(places, at)
		for _, row := range rows[top+1:] {
			if rat.Sign(row[at]) != 0 {
				takeOff(row, rows[top], at)
				shorten(row)
			}
		}
	}
	return places
}

// clearAbove clears what stands above the first number of each row. It goes up from the last row, so that a row which is taken off one above it has noughts at all those places but its own.
func clearAbove(rows [][]rat.Rat, places []int) {
	for top := range slices.Backward(places) {
		row := rows[top]
		for k := top + 1; k < len(places); k++ {
			if rat.Sign(row[places[k]]) != 0 {
				takeOff(row, rows[k], places[k])
			}
		}
		// Once is enough: the rows' first numbers have most of their divisors in common, so that row hardly grows after the first of them.
		shorten(row)
	}
}

// takeOff takes multiples of another row off multiples of row, so that there is a 0 at a place, where the other one has none. Whole numbers stay whole.
func takeOff(row, other []rat.Rat, at int) {
	ratio, _ := rat.Div(row[at], other[at])
	num, den := parts(ratio)
	for k, v := range other {
		if rat.Sign(row[k]) != 0 {
			row[k] = rat.Mul(row[k], den)
		}
		if rat.Sign(v) != 0 {
			row[k] = rat.Sub(row[k], rat.Mul(v, num))
		}
	}
}

// parts is the Num and the Den of a lowest fraction, each as a fraction.
func parts(a rat.Rat) (rat.Rat, rat.Rat) {
	num, den := rat.Int(1), rat.Int(1)
	num.Num, den.Num.Size = a.Num, a.Den
	return num, den
}

// shorten makes a row one of whole numbers that nothing but 1 divides all: they are as short as they can be without a Den.
func shorten(row []rat.Rat) {
	divide(row, measure(row))
}

// measure is the greatest fraction, with some sign, of which all of a row are whole multiples; of noughts alone it is 1.
func measure(row []rat.Rat) rat.Rat {
	greatest := rat.Int(0)
	for _, v := range row {
		switch {
		case rat.Sign(v) == 0:
		case rat.Sign(greatest) == 0:
			greatest = v
		default:
			ratio, _ := rat.Div(v, greatest)
			_, den := parts(ratio)
			greatest, _ = rat.Div(greatest, den)
		}
	}
	if rat.Sign(greatest) == 0 {
		return rat.Int(1)
	}
	return greatest
}

// divide divides all of a row, in its place, by what is not 0.
func divide(row []rat.Rat, by rat.Rat) {
	for k, v := range row {
		row[k], _ = rat.Div(v, by)
	}
}
