package lin

import (
	"math/big"
	"slices"
	"testing"

	"offcut/api"
	"offcut/rat"
	"offcut/vec"
)

// reduceValues brings rows into their reduced form, in their place, as it is done by hand, and tells the places of the ones. There is but one reduced form, so any way to it will do.
func reduceValues(rows [][]*big.Rat) []int {
	var places []int
	for at := 0; len(rows) > 0 && at < len(rows[0]); at++ {
		top := len(places)
		k := top + slices.IndexFunc(rows[top:], func(row []*big.Rat) bool { return row[at].Sign() != 0 })
		if k < top {
			continue
		}
		rows[top], rows[k] = rows[k], rows[top]
		by := new(big.Rat).Inv(rows[top][at])
		for _, v := range rows[top] {
			v.Mul(v, by)
		}
		for k, row := range rows {
			if k == top || row[at].Sign() == 0 {
				continue
			}
			times := new(big.Rat).Set(row[at])
			for i, v := range rows[top] {
				if v.Sign() != 0 {
					row[i].Sub(row[i], new(big.Rat).Mul(v, times))
				}
			}
		}
		places = append(places, at)
	}
	return places
}

// isReduced fails the test unless rows are what P6.2 says of a reduced form.
func isReduced(t *testing.T, rows [][]rat.Rat, places []int) {
	t.Helper()
	for k, row := range rows {
		first := slices.IndexFunc(row, func(v rat.Rat) bool { return value(v).Sign() != 0 })
		if k >= len(places) {
			if first >= 0 {
				t.Fatalf("row %d is not one of noughts, but has no place", k)
			}
			continue
		}
		if first != places[k] || k > 0 && first <= places[k-1] {
			t.Fatalf("row %d begins at %d, its place is %d", k, first, places[k])
		}
		for i, other := range rows {
			want := int64(0)
			if i == k {
				want = 1
			}
			if value(other[first]).Cmp(big.NewRat(want, 1)) != 0 {
				t.Fatalf("row %d begins at %d, where row %d has %v", k, first, i, other[first])
			}
		}
	}
	if len(places) > len(rows) {
		t.Fatalf("%d places of %d rows", len(places), len(rows))
	}
}

// P6.2

func TestReduce(t *testing.T) {
	for _, m := range rightMatrices() {
		got, places := Reduce(m)
		want := allValues(m)
		wantPlaces := reduceValues(want)
		if !slices.Equal(places, wantPlaces) {
			t.Fatalf("Reduce(%v): places %v, want %v", m, places, wantPlaces)
		}
		sameRows(t, "Reduce", got, want)
		isReduced(t, got, places)
		if rank := Rank(m); rank != len(wantPlaces) {
			t.Fatalf("Rank(%v): %d, want %d", m, rank, len(wantPlaces))
		}
	}
	for k, m := range wrongMatrices() {
		if got, places := Reduce(m); len(got) > 0 || len(places) > 0 || Rank(m) != 0 {
			t.Errorf("Reduce or Rank of wrong matrix %d: %v %v %d", k, got, places, Rank(m))
		}
	}
}

func TestReduceOfSome(t *testing.T) {
	for _, c := range []struct {
		m, want [][]rat.Rat
		places  []int
	}{
		{matrix([]int{0, 0, 2}, []int{2, 4, 6}, []int{1, 2, 3}), matrix([]int{1, 2, 0}, []int{0, 0, 1}, []int{0, 0, 0}), []int{0, 2}},
		{matrix([]int{0, 0, 0}, []int{0, 3, 6}), matrix([]int{0, 1, 2}, []int{0, 0, 0}), []int{1}}, {matrix([]int{0, 0}, []int{0, 0}), matrix([]int{0, 0}, []int{0, 0}), nil},
		{matrix([]int{-5}), matrix([]int{1}), []int{0}}, {matrix([]int{0}), matrix([]int{0}), nil}, {matrix([]int{0}, []int{7}, []int{-7}), matrix([]int{1}, []int{0}, []int{0}), []int{0}},
		{matrix([]int{1, 2}, []int{3, 4}), matrix([]int{1, 0}, []int{0, 1}), []int{0, 1}}, {matrix([]int{0, 1}, []int{1, 0}), matrix([]int{1, 0}, []int{0, 1}), []int{0, 1}},
		{matrix([]int{1, 2, 0, 3}, []int{0, 0, 1, 4}, []int{0, 0, 0, 0}), matrix([]int{1, 2, 0, 3}, []int{0, 0, 1, 4}, []int{0, 0, 0, 0}), []int{0, 2}},
		{matrix([]int{1, 1, 1, 6}, []int{0, 2, 5, -4}, []int{2, 5, -1, 27}), matrix([]int{1, 0, 0, 5}, []int{0, 1, 0, 3}, []int{0, 0, 1, -2}), []int{0, 1, 2}},
		{[][]rat.Rat{{}, nil}, [][]rat.Rat{{}, {}}, nil}, {nil, nil, nil},
	} {
		got, places := Reduce(c.m)
		if !slices.Equal(places, c.places) || Rank(c.m) != len(c.places) {
			t.Errorf("Reduce(%v): places %v, want %v; Rank %d", c.m, places, c.places, Rank(c.m))
		}
		sameRows(t, "Reduce", got, allValues(c.want))
	}
	got, _ := Reduce(matrix([]int{-4, 6, 3}))
	if s := vec.Texts(got[0]); !slices.Equal(s, []string{"1", "-3/2", "-3/4"}) {
		t.Errorf("Reduce of -4 6 3: %v", s)
	}
}

// Rows of noughts, and rows that are sums of others, add nothing to a reduced form, wherever they stand.
func TestReduceOfRowsThatAddNothing(t *testing.T) {
	s := source(62)
	for range 20 {
		m := s.rows(3, 5, s.small)
		want, places := Reduce(m)
		for k := range 4 {
			for _, row := range [][]rat.Rat{s.withNoughts(1, 5, 0)[0], vec.Add(m[0], m[2]), vec.Scale(m[1], rat.Int(-3)), m[2]} {
				got, gotPlaces := Reduce(slices.Insert(slices.Clone(m), k, row))
				if !slices.Equal(gotPlaces, places) || len(got) != 4 || !vec.Zero(got[3]) {
					t.Fatalf("Reduce with a row that adds nothing at %d: places %v, want %v", k, gotPlaces, places)
				}
				sameRows(t, "Reduce with a row that adds nothing", got[:3], allValues(want))
			}
		}
	}
}

// P6.4

func TestReducedFormReducedIsItself(t *testing.T) {
	for _, m := range rightMatrices() {
		once, places := Reduce(m)
		twice, again := Reduce(once)
		if !slices.Equal(places, again) || Rank(once) != len(places) {
			t.Fatalf("Reduce of Reduce(%v): places %v, want %v", m, again, places)
		}
		sameRows(t, "Reduce of Reduce", twice, allValues(once))
	}
}

func TestSolvedAppliedIsB(t *testing.T) {
	s := source(64)
	many := 0
	for round := range 300 {
		n := round % 10
		next := []func() rat.Rat{s.small, s.sparse, s.odd}[round%3]
		m, b := s.rows(n, n, next), s.row(n, s.odd)
		x, e := Solve(m, b)
		if e == api.ErrSame && Rank(m) < n {
			continue
		}
		if e != api.OK {
			t.Fatalf("Solve(%v, %v): error %d", m, b, e)
		}
		many++
		got, e := Apply(m, x)
		if e != api.OK {
			t.Fatalf("Apply of what is solved: error %d", e)
		}
		sameRow(t, "what is solved, applied", got, values(b))
	}
	if many < 150 {
		t.Errorf("only %d were solved", many)
	}
}

// Numbers on the way are longer with each row, but not so long that this would take a minute.
func TestSolveOfManyNumbers(t *testing.T) {
	s := source(65)
	const n = 50
	m, x := s.rows(n, n, s.small), s.row(n, s.small)
	b, _ := Apply(m, x)
	got, e := Solve(m, b)
	if e != api.OK {
		t.Fatalf("Solve: error %d", e)
	}
	sameRow(t, "Solve", got, values(x))
	b = s.row(n, s.small)
	got, _ = Solve(m, b)
	applied, e := Apply(m, got)
	if e != api.OK {
		t.Fatalf("Apply: error %d", e)
	}
	sameRow(t, "what is solved, applied", applied, values(b))
}
