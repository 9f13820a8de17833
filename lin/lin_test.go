package lin

import (
	"fmt"
	"math/big"
	"slices"
	"testing"

	"offcut/api"
	"offcut/nat"
	"offcut/rat"
	"offcut/vec"
	"offcut/whole"
)

// The signatures are the document's; these lines do not build with others.
var (
	_ func([][]rat.Rat) (int, int, bool)                    = Sides
	_ func([][]rat.Rat, []rat.Rat) ([]rat.Rat, api.Errno)   = Apply
	_ func([][]rat.Rat) [][]rat.Rat                         = Turn
	_ func([][]rat.Rat, []rat.Rat) ([]rat.Rat, api.Errno)   = Solve
	_ func([][]rat.Rat) int                                 = Rank
	_ func([][]rat.Rat) (reduced [][]rat.Rat, places []int) = Reduce
)

// size is what a row of words stands for, by arithmetic that is not the program's own.
func size(a nat.Nat) *big.Int {
	v := new(big.Int)
	for _, word := range slices.Backward(a) {
		v.Lsh(v, 32)
		v.Or(v, new(big.Int).SetUint64(uint64(word)))
	}
	return v
}

// value is what a fraction stands for.
func value(a rat.Rat) *big.Rat {
	num, den := size(a.Num.Size), size(a.Den)
	if a.Num.Minus {
		num.Neg(num)
	}
	if den.Sign() == 0 {
		den.SetInt64(1)
	}
	return new(big.Rat).SetFrac(num, den)
}

func values(a []rat.Rat) []*big.Rat {
	row := make([]*big.Rat, len(a))
	for k, v := range a {
		row[k] = value(v)
	}
	return row
}

func allValues(m [][]rat.Rat) [][]*big.Rat {
	rows := make([][]*big.Rat, len(m))
	for k, row := range m {
		rows[k] = values(row)
	}
	return rows
}

func endsWithNought(a nat.Nat) bool {
	return len(a) > 0 && a[len(a)-1] == 0
}

// same fails the test unless got is want, lowest; a big.Rat always is.
func same(t *testing.T, what string, got rat.Rat, want *big.Rat) {
	t.Helper()
	if endsWithNought(got.Num.Size) || endsWithNought(got.Den) || got.Num.Minus && len(got.Num.Size) == 0 {
		t.Fatalf("%s: not as it is told: %v", what, got)
	}
	if size(got.Den).Cmp(want.Denom()) != 0 || value(got).Cmp(want) != 0 {
		t.Fatalf("%s: got %v, want %v", what, got, want)
	}
}

func sameRow(t *testing.T, what string, got []rat.Rat, want []*big.Rat) {
	t.Helper()
	if len(got) != len(want) {
		t.Fatalf("%s: %d places, want %d", what, len(got), len(want))
	}
	for k := range got {
		same(t, fmt.Sprintf("%s, at %d", what, k), got[k], want[k])
	}
}

func sameRows(t *testing.T, what string, got [][]rat.Rat, want [][]*big.Rat) {
	t.Helper()
	if len(got) != len(want) {
		t.Fatalf("%s: %d rows, want %d", what, len(got), len(want))
	}
	for k := range got {
		sameRow(t, fmt.Sprintf("%s, row %d", what, k), got[k], want[k])
	}
}

func fraction(minus bool, num, den nat.Nat) rat.Rat {
	return rat.Rat{Num: whole.Int{Minus: minus, Size: num}, Den: den}
}

// noughts stand for 0, each in another way.
func noughts() []rat.Rat {
	return []rat.Rat{
		{}, fraction(false, nil, nat.Nat{1}), fraction(true, nil, nat.Nat{1}), fraction(true, nil, nil), fraction(false, nat.Nat{}, nat.Nat{}),
		fraction(true, nat.Nat{0}, nat.Nat{7}), fraction(false, nat.Nat{0, 0}, nat.Nat{0, 0}), fraction(false, nat.Nat{0}, nat.Nat{4, 0}),
	}
}

// others do not stand for 0: of both signs, lowest or not, with a Den of 0, and with numbers that end with noughts.
func others() []rat.Rat {
	var all []rat.Rat
	nums := []nat.Nat{{1}, {6}, {35, 0, 0}, {0, 1}, {6, 0, 6}, {9, 8, 7, 6, 5}}
	dens := []nat.Nat{nil, {0, 0}, {1}, {4, 0}, {35}, {0, 1 << 31}, {3, 0, 3, 0}}
	for i, num := range nums {
		for k, den := range dens {
			all = append(all, fraction((i+k)%2 == 1, num, den))
		}
	}
	return all
}

// source tells numbers that look like any, but are always the same ones.
type source uint64

func (s *source) below(n int) int {
	*s = *s*6364136223846793005 + 1442695040888963407
	return int(*s>>33) % n
}

// small is a fraction of few digits, in some way in which it may be handed in.
func (s *source) small() rat.Rat {
	times := uint64(1 + s.below(3))
	num, den := nat.Of(times*uint64(s.below(10))), nat.Of(times*uint64(1+s.below(6)))
	for range s.below(3) {
		num, den = append(num, 0), append(den, 0)
	}
	return fraction(s.below(2) == 1, num, den)
}

// odd is a fraction of any kind.
func (s *source) odd() rat.Rat {
	if s.below(3) == 0 {
		return noughts()[s.below(len(noughts()))]
	}
	return others()[s.below(len(others()))]
}

func (s *source) row(long int, next func() rat.Rat) []rat.Rat {
	row := make([]rat.Rat, long)
	for k := range row {
		row[k] = next()
	}
	return row
}

func (s *source) rows(high, long int, next func() rat.Rat) [][]rat.Rat {
	m := make([][]rat.Rat, high)
	for k := range m {
		m[k] = s.row(long, next)
	}
	return m
}

// sparse has noughts at most places.
func (s *source) sparse() rat.Rat {
	if s.below(3) > 0 {
		return noughts()[s.below(len(noughts()))]
	}
	return s.small()
}

// hanging has rows that are sums of others, wherever they stand.
func (s *source) hanging(high, long int) [][]rat.Rat {
	m := s.rows(high, long, s.small)
	for k := range high / 2 {
		at, one, two := s.below(high), s.below(high), s.below(high)
		m[at] = vec.Add(vec.Scale(m[one], s.small()), vec.Scale(m[two], rat.Int(k-1)))
	}
	return m
}

// withNoughts is a matrix with rows of noughts alone at these places.
func (s *source) withNoughts(high, long int, places ...int) [][]rat.Rat {
	m := s.rows(high, long, s.small)
	for _, k := range places {
		m[k] = s.row(long, func() rat.Rat { return noughts()[s.below(len(noughts()))] })
	}
	return m
}

// matrix is rows of whole numbers.
func matrix(rows ...[]int) [][]rat.Rat {
	m := make([][]rat.Rat, len(rows))
	for k, row := range rows {
		m[k] = vec.Ints(row...)
	}
	return m
}

// noRows are matrices of no rows, or of rows that are empty.
func noRows() [][][]rat.Rat {
	return [][][]rat.Rat{nil, {}, {{}}, {nil}, {nil, {}}, {{}, {}, {}}, make([][]rat.Rat, 200)}
}

// someMatrices are wide, tall and square ones, of all kinds.
func someMatrices() [][][]rat.Rat {
	var all [][][]rat.Rat
	for _, v := range append(noughts(), others()...) {
		all = append(all, [][]rat.Rat{{v}})
	}
	s := source(6)
	for _, sides := range [][2]int{
		{1, 2}, {2, 1}, {1, 5}, {5, 1}, {2, 2}, {2, 2}, {2, 2}, {2, 3}, {3, 2}, {3, 3}, {3, 3}, {3, 3}, {4, 4}, {4, 4}, {3, 6}, {6, 3}, {5, 5}, {7, 7}, {4, 9}, {9, 4}, {8, 8},
	} {
		high, long := sides[0], sides[1]
		all = append(all,
			s.rows(high, long, s.small), s.rows(high, long, s.sparse), s.rows(high, long, s.odd), s.hanging(high, long),
			s.withNoughts(high, long, 0), s.withNoughts(high, long, high/2), s.withNoughts(high, long, high-1), s.withNoughts(high, long, 0, high/2, high-1),
			matrix(slices.Repeat([][]int{make([]int, long)}, high)...))
	}
	return append(all, matrix([]int{0, 2, 1}, []int{1, 1, 1}, []int{2, 0, 3}), matrix([]int{1, 0}, []int{0, 1}), matrix([]int{0, 1}, []int{1, 0}), matrix([]int{1, 2, 0, 3}, []int{0, 0, 1, 4}, []int{0, 0, 0, 0}))
}

// long is so many noughts, with a number at a place.
func long(n, at, number int) []rat.Rat {
	row := vec.Ints(make([]int, n)...)
	row[at] = rat.Int(number)
	return row
}

// scattered has in each row one number, each in another column.
func scattered(high, wide int) [][]rat.Rat {
	m := make([][]rat.Rat, high)
	for k := range m {
		m[k] = long(wide, (k*91+5)%wide, k%9+1)
	}
	return m
}

// greatMatrices are as great as they may be.
func greatMatrices() [][][]rat.Rat {
	return [][][]rat.Rat{scattered(200, 200), scattered(199, 200), scattered(200, 199), scattered(200, 1), scattered(1, 200)}
}

func rightMatrices() [][][]rat.Rat {
	return append(append(noRows(), someMatrices()...), greatMatrices()...)
}

// wrongMatrices are rows that are not all as long, too many, or too long.
func wrongMatrices() [][][]rat.Rat {
	room := vec.Ints(1, 2, 3, 4)
	return [][][]rat.Rat{
		matrix([]int{1}, []int{1, 2}), matrix([]int{1, 2}, []int{1}), matrix([]int{1, 2}, []int{3, 4}, []int{5}), matrix([]int{1, 2}, []int{3}, []int{4, 5}), matrix([]int{1}, []int{2, 3}, []int{4, 5}),
		{nil, vec.Ints(1)}, {vec.Ints(1), nil}, {vec.Ints(0), {}}, {{}, vec.Ints(0)}, {room[:2], room[:3]}, {room[:4], room[:4], room[:4], room[:3]},
		make([][]rat.Rat, 201), make([][]rat.Rat, 5000), scattered(201, 1), scattered(201, 200), scattered(200, 201), scattered(1, 201), scattered(201, 201), {vec.Ints(make([]int, 5000)...)},
		append(scattered(199, 200), vec.Ints(1)), append(scattered(1, 200), long(201, 0, 1)), append(scattered(1, 201), long(200, 0, 1)),
	}
}

// P6.1

func TestSides(t *testing.T) {
	for _, m := range rightMatrices() {
		wide := 0
		for _, row := range m {
			wide = len(row)
		}
		if got, length, is := Sides(m); got != len(m) || length != wide || !is {
			t.Errorf("Sides of %d rows, %d long: %d %d %v", len(m), wide, got, length, is)
		}
	}
	for k, m := range wrongMatrices() {
		if high, length, is := Sides(m); high != 0 || length != 0 || is {
			t.Errorf("Sides of wrong matrix %d: %d %d %v", k, high, length, is)
		}
	}
}

// product is what Apply has to tell.
func product(m [][]rat.Rat, x []rat.Rat) []*big.Rat {
	sums := make([]*big.Rat, len(m))
	for k, row := range m {
		sums[k] = new(big.Rat)
		for at, v := range row {
			sums[k].Add(sums[k], new(big.Rat).Mul(value(v), value(x[at])))
		}
	}
	return sums
}

func TestApply(t *testing.T) {
	s := source(61)
	for _, m := range rightMatrices() {
		_, wide, _ := Sides(m)
		for _, next := range []func() rat.Rat{s.small, s.sparse, s.odd} {
			x := s.row(wide, next)
			got, e := Apply(m, x)
			if e != api.OK {
				t.Fatalf("Apply of %d rows, %d long: error %d", len(m), wide, e)
			}
			sameRow(t, "Apply", got, product(m, x))
		}
	}
}

func TestApplyOfSome(t *testing.T) {
	half, _ := rat.Of(1, 2)
	for _, c := range []struct {
		m    [][]rat.Rat
		x    []rat.Rat
		want []string
	}{
		{matrix([]int{0, 2, 1}, []int{1, 1, 1}, []int{2, 0, 3}), vec.Ints(1, 0, -1), []string{"-1", "0", "-1"}},
		{matrix([]int{2, 1}, []int{1, 1}), vec.Ints(2, 1), []string{"5", "3"}},
		{matrix([]int{1, -3}), []rat.Rat{half, half}, []string{"-1"}}, {matrix([]int{1}, []int{-3}), []rat.Rat{half}, []string{"1/2", "-3/2"}},
		{[][]rat.Rat{{fraction(true, nat.Nat{6, 0}, nat.Nat{4})}, {fraction(false, nat.Nat{7}, nil)}, {fraction(true, nat.Nat{0}, nil)}}, []rat.Rat{fraction(false, nat.Nat{2}, nil)}, []string{"-3", "14", "0"}},
		{[][]rat.Rat{{}, nil}, nil, []string{"0", "0"}}, {[][]rat.Rat{{}}, []rat.Rat{}, []string{"0"}},
	} {
		if got, e := Apply(c.m, c.x); e != api.OK || !slices.Equal(vec.Texts(got), c.want) {
			t.Errorf("Apply(%v, %v): %v, error %d", c.m, c.x, vec.Texts(got), e)
		}
	}
}

func TestApplyOfSizes(t *testing.T) {
	for _, m := range append(someMatrices(), [][]rat.Rat{{}}, [][]rat.Rat{nil, nil}, scattered(200, 200), scattered(1, 200), scattered(200, 1)) {
		_, wide, _ := Sides(m)
		for _, n := range []int{0, 1, 2, wide - 1, wide + 1, 2 * wide, 199, 200, 201, 1000} {
			if n < 0 || n == wide {
				continue
			}
			if got, e := Apply(m, make([]rat.Rat, n)); e != api.ErrSize || len(got) > 0 {
				t.Fatalf("Apply of rows %d long and an x of %d: %v, error %d", wide, n, got, e)
			}
		}
		if got, e := Apply(m, nil); wide > 0 && (e != api.ErrSize || len(got) > 0) {
			t.Fatalf("Apply of rows %d long and nil: %v, error %d", wide, got, e)
		}
	}
	for _, m := range wrongMatrices() {
		for n := range 205 {
			if got, e := Apply(m, make([]rat.Rat, n)); e != api.ErrSize || len(got) > 0 {
				t.Fatalf("Apply of a wrong matrix and an x of %d: %v, error %d", n, got, e)
			}
		}
	}
	for _, x := range [][]rat.Rat{nil, {}, vec.Ints(1), vec.Ints(1, 2, 3), make([]rat.Rat, 200), make([]rat.Rat, 201), make([]rat.Rat, 5000)} {
		for _, m := range [][][]rat.Rat{nil, {}} {
			if got, e := Apply(m, x); e != api.OK || len(got) > 0 {
				t.Errorf("Apply of no rows and an x of %d: %v, error %d", len(x), got, e)
			}
		}
	}
}

func TestTurn(t *testing.T) {
	for _, m := range rightMatrices() {
		high, wide, _ := Sides(m)
		want := make([][]*big.Rat, wide)
		for at := range want {
			for _, row := range m {
				want[at] = append(want[at], value(row[at]))
			}
		}
		sameRows(t, fmt.Sprintf("Turn of %d rows, %d long", high, wide), Turn(m), want)
		if wide > 0 {
			sameRows(t, "Turn of Turn", Turn(Turn(m)), allValues(m))
		}
	}
	for k, m := range append(noRows(), wrongMatrices()...) {
		if got := Turn(m); len(got) > 0 {
			t.Errorf("Turn of matrix %d, of none or wrong: %v", k, got)
		}
	}
}

// P6.3

// solved is what Solve has to tell, of sizes that go together; false, if there is no such row, or more than one.
func solved(m [][]rat.Rat, b []rat.Rat) ([]*big.Rat, bool) {
	wide := allValues(m)
	for k := range wide {
		wide[k] = append(wide[k], value(b[k]))
	}
	places := reduceValues(wide)
	var x []*big.Rat
	for k := range m {
		if k >= len(places) || places[k] != k {
			return nil, false
		}
		x = append(x, wide[k][len(m)])
	}
	return x, true
}

func TestSolve(t *testing.T) {
	s := source(63)
	ones, none := 0, 0
	for _, m := range append(someMatrices(), nil) {
		high, wide, _ := Sides(m)
		if high != wide {
			continue
		}
		for _, b := range [][]rat.Rat{s.row(high, s.small), s.row(high, s.odd), make([]rat.Rat, high), vec.Ints(slices.Repeat([]int{1}, high)...)} {
			got, e := Solve(m, b)
			want, is := solved(m, b)
			if !is {
				none++
				if e != api.ErrSame || len(got) > 0 {
					t.Fatalf("Solve(%v, %v): %v, error %d, want ErrSame", m, b, vec.Texts(got), e)
				}
				continue
			}
			ones++
			if e != api.OK {
				t.Fatalf("Solve(%v, %v): error %d", m, b, e)
			}
			sameRow(t, "Solve", got, want)
		}
	}
	if ones < 100 || none < 100 {
		t.Errorf("Solve: only %d with one answer, %d without", ones, none)
	}
}

func TestSolveOfSome(t *testing.T) {
	for _, c := range []struct {
		m    [][]rat.Rat
		b    []rat.Rat
		want []string
		e    api.Errno
	}{
		{matrix([]int{2, 1}, []int{1, 1}), vec.Ints(5, 3), []string{"2", "1"}, api.OK},
		{matrix([]int{0, 2, 1}, []int{1, 1, 1}, []int{2, 0, 3}), vec.Ints(7, 6, 11), []string{"1", "2", "3"}, api.OK},
		{matrix([]int{0, 1}, []int{1, 0}), vec.Ints(3, 4), []string{"4", "3"}, api.OK}, {matrix([]int{-4}), vec.Ints(6), []string{"-3/2"}, api.OK}, {matrix([]int{3}), vec.Ints(0), []string{"0"}, api.OK},
		{[][]rat.Rat{{fraction(true, nat.Nat{6, 0}, nat.Nat{4, 0})}}, []rat.Rat{fraction(false, nat.Nat{3}, nil)}, []string{"-2"}, api.OK},
		{nil, nil, nil, api.OK}, {[][]rat.Rat{}, []rat.Rat{}, nil, api.OK},
		{matrix([]int{1, 2}, []int{2, 4}), vec.Ints(1, 2), nil, api.ErrSame}, {matrix([]int{1, 2}, []int{2, 4}), vec.Ints(1, 3), nil, api.ErrSame}, {matrix([]int{1, 2}, []int{2, 4}), vec.Ints(0, 0), nil, api.ErrSame},
		{matrix([]int{0}), vec.Ints(0), nil, api.ErrSame}, {matrix([]int{0}), vec.Ints(1), nil, api.ErrSame}, {matrix([]int{0, 0}, []int{0, 0}), vec.Ints(1, 1), nil, api.ErrSame},
		{matrix([]int{0, 1}, []int{0, 2}), vec.Ints(1, 1), nil, api.ErrSame}, {matrix([]int{0, 1}, []int{0, 2}), vec.Ints(1, 2), nil, api.ErrSame}, {matrix([]int{1, 0}, []int{2, 0}), vec.Ints(1, 1), nil, api.ErrSame},
		{matrix([]int{1, 0, 0}, []int{0, 0, 1}, []int{1, 0, 1}), vec.Ints(1, 1, 3), nil, api.ErrSame}, {matrix([]int{1, 0, 0}, []int{0, 0, 1}, []int{1, 0, 1}), vec.Ints(1, 1, 2), nil, api.ErrSame},
	} {
		if got, e := Solve(c.m, c.b); e != c.e || !slices.Equal(vec.Texts(got), c.want) {
			t.Errorf("Solve(%v, %v): %v, error %d", c.m, vec.Texts(c.b), vec.Texts(got), e)
		}
	}
}

func TestSolveOfSizes(t *testing.T) {
	refused := func(m [][]rat.Rat, n int) {
		t.Helper()
		if got, e := Solve(m, make([]rat.Rat, n)); e != api.ErrSize || len(got) > 0 {
			t.Fatalf("Solve of %d rows and a b of %d: %v, error %d", len(m), n, got, e)
		}
	}
	for _, m := range rightMatrices() {
		high, wide, _ := Sides(m)
		for _, n := range []int{0, 1, 2, 3, high - 1, high, high + 1, wide, 199, 200, 201} {
			if n >= 0 && (n != high || high != wide) {
				refused(m, n)
			}
		}
	}
	for _, m := range wrongMatrices() {
		for _, n := range []int{0, 1, 2, 3, 199, 200, 201, 5000} {
			refused(m, n)
		}
	}
	// Rows that hang on one another are not told of, where sizes do not go together.
	refused(matrix([]int{1, 2}, []int{2, 4}), 3)
	refused(matrix([]int{0, 0, 0}, []int{0, 0, 0}), 2)
	refused(matrix(slices.Repeat([][]int{make([]int, 200)}, 200)...), 200)
}

// As many rows as may be solved, and one more.
func TestSolveOfMany(t *testing.T) {
	for _, n := range []int{198, 199} {
		m, x := make([][]rat.Rat, n), make([]rat.Rat, n)
		for k := range m {
			m[k] = long(n, (k*91+5)%n, k%9+1)
			m[k][(k*91+96)%n] = rat.Int(k%2 - 2)
			x[k] = rat.Int(k - 70)
		}
		b, _ := Apply(m, x)
		got, e := Solve(m, b)
		if e != api.OK {
			t.Fatalf("Solve of %d rows: error %d", n, e)
		}
		sameRow(t, "Solve of many rows", got, values(x))
		m[n/2] = m[n/3]
		if got, e := Solve(m, b); e != api.ErrSame || len(got) > 0 {
			t.Errorf("Solve of %d rows, two of them the same: error %d", n, e)
		}
	}
	for _, n := range []int{200, 201} {
		if got, e := Solve(scattered(n, n), make([]rat.Rat, n)); e != api.ErrSize || len(got) > 0 {
			t.Errorf("Solve of %d rows: error %d", n, e)
		}
	}
}
