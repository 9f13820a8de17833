package vec

import (
	"math"
	"math/big"
	"testing"

	"offcut/nat"
	"offcut/rat"
)

// places is terms at these places, all of them 1.
func places(at ...int) []Term {
	l := make([]Term, len(at))
	for k, place := range at {
		l[k] = Term{place, rat.Int(1)}
	}
	return l
}

// wrongTerms may not be a sparse row.
func wrongTerms() [][]Term {
	all := [][]Term{
		places(-1), places(-1, 0), places(math.MinInt), places(0, -1), places(0, 0), places(1, 1), places(0, 2, 2), places(2, 1), places(0, 1, 2, 1), places(3, 2, 1, 0),
		places(0, 5, 4, 6), places(math.MaxInt, math.MinInt), places(math.MaxInt, math.MaxInt), places(0, 1, 1, 2),
	}
	for _, v := range noughts() {
		all = append(all, []Term{{0, v}}, []Term{{0, rat.Int(1)}, {3, v}}, []Term{{0, v}, {3, rat.Int(1)}}, []Term{{0, rat.Int(1)}, {1, v}, {2, rat.Int(1)}})
	}
	return all
}

// rightTerms may be one; their last place is below 20.
func rightTerms() [][]Term {
	all := [][]Term{nil, {}, places(0), places(7), places(0, 1, 2), places(0, 2, 19), places(5, 6)}
	var each []Term
	for k, v := range others()[:20] {
		all = append(all, []Term{{0, v}}, []Term{{3, rat.Int(-5)}, {4, v}})
		each = append(each, Term{k, v})
	}
	return append(all, each)
}

// P5.2

func TestRight(t *testing.T) {
	for _, l := range rightTerms() {
		if !Right(l) {
			t.Errorf("Right(%v) is false", l)
		}
	}
	for _, l := range [][]Term{places(math.MaxInt), places(0, math.MaxInt), places(1<<16, 1<<16+1, 1<<40)} {
		if !Right(l) {
			t.Errorf("Right(%v) is false", l)
		}
	}
	for _, l := range wrongTerms() {
		if Right(l) {
			t.Errorf("Right(%v) is true", l)
		}
	}
}

func TestSparse(t *testing.T) {
	for _, a := range someRows() {
		l := Sparse(a)
		next := 0
		for k, v := range a {
			if value(v).Sign() == 0 {
				continue
			}
			if next >= len(l) || l[next].At != k {
				t.Fatalf("Sparse(%v): %v", a, l)
			}
			same(t, "Sparse", l[next].V, value(v))
			next++
		}
		if next != len(l) || !Right(l) {
			t.Fatalf("Sparse(%v): %v", a, l)
		}
		got, is := Dense(l, len(a))
		if !is {
			t.Fatalf("Dense(Sparse(%v)) is false", a)
		}
		sameRow(t, "Dense of Sparse", got, len(a), func(k int) *big.Rat { return value(a[k]) })
	}
}

func TestSparseOfSome(t *testing.T) {
	for _, a := range [][]rat.Rat{nil, {}, noughts(), Ints(0), Ints(0, 0, 0)} {
		if l := Sparse(a); len(l) > 0 {
			t.Errorf("Sparse(%v): %v", a, l)
		}
	}
	if l := Sparse(Ints(0, 7)); len(l) != 1 || l[0].At != 1 || rat.Text(l[0].V) != "7" {
		t.Errorf("Sparse of 0 7: %v", l)
	}
	l := Sparse([]rat.Rat{fraction(true, nat.Nat{6, 0}, nat.Nat{4}), {}, fraction(false, nat.Nat{7}, nil)})
	if len(l) != 2 || l[0].At != 0 || l[1].At != 2 {
		t.Fatalf("Sparse: %v", l)
	}
	same(t, "Sparse, not lowest", l[0].V, big.NewRat(-3, 2))
	same(t, "Sparse, with a Den of 0", l[1].V, big.NewRat(7, 1))
}

// last is the last place of terms, -1 of none.
func last(l []Term) int {
	if len(l) == 0 {
		return -1
	}
	return l[len(l)-1].At
}

func TestDense(t *testing.T) {
	for _, l := range rightTerms() {
		for long := -2; long <= 25; long++ {
			got, is := Dense(l, long)
			if want := long >= 0 && last(l) < long; is != want || !is && len(got) > 0 {
				t.Fatalf("Dense(%v, %d): %v %v", l, long, got, is)
			}
			if !is {
				continue
			}
			sameRow(t, "Dense", got, long, func(k int) *big.Rat { return sumAt(l, k) })
		}
	}
}

// sumAt is all that terms have at a place.
func sumAt(l []Term, k int) *big.Rat {
	sum := new(big.Rat)
	for _, t := range l {
		if t.At == k {
			sum.Add(sum, value(t.V))
		}
	}
	return sum
}

func TestDenseOfWrongTerms(t *testing.T) {
	for _, l := range wrongTerms() {
		for _, long := range []int{-1, 0, 1, 4, 100, 1 << 16, 1<<16 + 1} {
			if got, is := Dense(l, long); is || len(got) > 0 {
				t.Errorf("Dense(%v, %d): %v", l, long, is)
			}
		}
	}
}

func TestDenseOfLengths(t *testing.T) {
	most := 1 << 16
	for _, c := range []struct {
		l    []Term
		long int
		is   bool
	}{
		{nil, 0, true}, {[]Term{}, 0, true}, {places(0), 0, false}, {nil, -1, false}, {nil, math.MinInt, false}, {nil, math.MaxInt, false}, {places(0), -1, false},
		{nil, most, true}, {nil, most + 1, false}, {places(most - 1), most, true}, {places(most), most, false}, {places(most), most + 1, false}, {places(0), most + 1, false},
		{places(most - 2), most - 1, true}, {places(math.MaxInt), math.MaxInt, false}, {places(0, math.MaxInt), most, false}, {places(math.MaxInt - 1), math.MaxInt, false},
		{places(0), 1, true}, {places(0, 1), 1, false}, {places(1), 1, false}, {places(0, 3), 4, true}, {places(0, 3), 3, false},
	} {
		got, is := Dense(c.l, c.long)
		if is != c.is || !is && len(got) > 0 {
			t.Errorf("Dense(%v, %d): %d places, %v", c.l, c.long, len(got), is)
			continue
		}
		if is {
			sameRow(t, "Dense", got, c.long, func(k int) *big.Rat { return sumAt(c.l, k) })
		}
	}
}

func TestSparseDot(t *testing.T) {
	all := append(rightTerms(), wrongTerms()...)
	all = append(all, places(2, 2, 2), places(-3, 1, 1, 0, 99, math.MinInt, math.MaxInt))
	for _, l := range all {
		for _, a := range someRows() {
			want := new(big.Rat)
			for _, term := range l {
				want.Add(want, new(big.Rat).Mul(value(term.V), valueAt(a, term.At)))
			}
			same(t, "SparseDot", SparseDot(l, a), want)
		}
	}
}

func TestSparseDotOfSome(t *testing.T) {
	row := Ints(10, 200, 3000)
	for _, c := range []struct {
		l    []Term
		want string
	}{
		{nil, "0"}, {[]Term{}, "0"}, {places(0, 1, 2), "3210"}, {places(2, 0), "3010"}, {places(1, 1, 1), "600"}, {places(-1, 3, 4), "0"}, {places(-1, 2, 3), "3000"},
		{[]Term{{1, rat.Rat{}}, {2, rat.Int(-1)}}, "-3000"}, {[]Term{{0, fraction(true, nat.Nat{6, 0}, nat.Nat{4})}}, "-15"}, {[]Term{{0, fraction(false, nat.Nat{7}, nil)}}, "70"},
	} {
		if got := rat.Text(SparseDot(c.l, row)); got != c.want {
			t.Errorf("SparseDot(%v): %s, want %s", c.l, got, c.want)
		}
		same(t, "SparseDot with no row", SparseDot(c.l, nil), new(big.Rat))
		same(t, "SparseDot with an empty row", SparseDot(c.l, row[:0]), new(big.Rat))
	}
}

func TestSparseDotIsDot(t *testing.T) {
	eachTwo(func(a, b []rat.Rat) {
		same(t, "SparseDot of Sparse", SparseDot(Sparse(a), b), value(Dot(a, b)))
	})
}
