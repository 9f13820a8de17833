package vec

import "offcut/rat"

// maxLong is how long a row may be that is made of a sparse one.
const maxLong = 1 << 16

// Term is a fraction at a place.
type Term struct {
	At int
	V  rat.Rat
}

// Right tells which sparse rows may be.
func Right(l []Term) bool {
	last := -1
	for _, t := range l {
		if t.At <= last || rat.Sign(t.V) == 0 {
			return false
		}
		last = t.At
	}
	return true
}

// Sparse is the sparse row of a row.
func Sparse(a []rat.Rat) []Term {
	var l []Term
	for k, v := range a {
		if rat.Sign(v) != 0 {
			l = append(l, Term{k, lowest(v)})
		}
	}
	return l
}

// Dense is the row of a sparse one.
func Dense(l []Term, long int) ([]rat.Rat, bool) {
	if !Right(l) || long < 0 || long > maxLong {
		return nil, false
	}
	// Places rise: if the last one is below long, all are.
	if len(l) > 0 && l[len(l)-1].At >= long {
		return nil, false
	}
	row := Ints(make([]int, long)...)
	for _, t := range l {
		row[t.At] = lowest(t.V)
	}
	return row, true
}

// SparseDot is the sum of products.
func SparseDot(l []Term, a []rat.Rat) rat.Rat {
	sum := rat.Int(0)
	for _, t := range l {
		sum = rat.Add(sum, rat.Mul(t.V, at(a, t.At)))
	}
	return sum
}
