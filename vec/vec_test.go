package vec

import (
	"fmt"
	"math"
	"math/big"
	"slices"
	"testing"

	"offcut/nat"
	"offcut/rat"
	"offcut/whole"
)

// The signatures are the document's; these lines do not build with others.
var (
	_ func(...int) []rat.Rat                                            = Ints
	_ func([]rat.Rat, []rat.Rat) func(yield func(int, [2]rat.Rat) bool) = Pairs
	_ func([]rat.Rat, []rat.Rat) rat.Rat                                = Dot
	_ func([]rat.Rat, []rat.Rat) []rat.Rat                              = Add
	_ func([]rat.Rat, rat.Rat) []rat.Rat                                = Scale
	_ func([]rat.Rat) []Term                                            = Sparse
	_ func([]Term, int) ([]rat.Rat, bool)                               = Dense
	_ func([]Term) bool                                                 = Right
	_ func([]Term, []rat.Rat) rat.Rat                                   = SparseDot
	_ func([]rat.Rat, []rat.Rat) bool                                   = Same
	_ func([]rat.Rat) bool                                              = Zero
	_ func([]rat.Rat) []string                                          = Texts
	_                                                                   = struct {
		At int
		V  rat.Rat
	}(Term{})
)

// size is what a row of words stands for, by arithmetic that is not the program's own.
func size(a nat.Nat) *big.Int {
	v := new(big.Int)
	for _, word := range slices.Backward(a) {
		v.Lsh(v, 32)
		v.Or(v, new(big.Int).SetUint64(uint64(word)))
	}
	return v
}

// value is what a fraction stands for.
func value(a rat.Rat) *big.Rat {
	num, den := size(a.Num.Size), size(a.Den)
	if a.Num.Minus {
		num.Neg(num)
	}
	if den.Sign() == 0 {
		den.SetInt64(1)
	}
	return new(big.Rat).SetFrac(num, den)
}

// valueAt is what a row has at a place, and 0 where it has none.
func valueAt(a []rat.Rat, k int) *big.Rat {
	if k < 0 || k >= len(a) {
		return new(big.Rat)
	}
	return value(a[k])
}

func endsWithNought(a nat.Nat) bool {
	return len(a) > 0 && a[len(a)-1] == 0
}

// same fails the test unless got is want, lowest; a big.Rat always is.
func same(t *testing.T, what string, got rat.Rat, want *big.Rat) {
	t.Helper()
	if endsWithNought(got.Num.Size) || endsWithNought(got.Den) || got.Num.Minus && len(got.Num.Size) == 0 {
		t.Fatalf("%s: not as it is told: %v", what, got)
	}
	if size(got.Den).Cmp(want.Denom()) != 0 || value(got).Cmp(want) != 0 {
		t.Fatalf("%s: got %v, want %v", what, got, want)
	}
}

// sameRow fails the test unless got is so long, and has at each place what want tells of it.
func sameRow(t *testing.T, what string, got []rat.Rat, long int, want func(k int) *big.Rat) {
	t.Helper()
	if len(got) != long {
		t.Fatalf("%s: %d places, want %d", what, len(got), long)
	}
	for k := range got {
		same(t, fmt.Sprintf("%s, at %d", what, k), got[k], want(k))
	}
}

func fraction(minus bool, num, den nat.Nat) rat.Rat {
	return rat.Rat{Num: whole.Int{Minus: minus, Size: num}, Den: den}
}

// noughts stand for 0, each in another way.
func noughts() []rat.Rat {
	return []rat.Rat{
		{}, fraction(false, nil, nat.Nat{1}), fraction(true, nil, nat.Nat{1}), fraction(true, nil, nil), fraction(false, nat.Nat{}, nat.Nat{}),
		fraction(true, nat.Nat{0}, nat.Nat{7}), fraction(false, nat.Nat{0, 0}, nat.Nat{0, 0}), fraction(false, nat.Nat{0}, nat.Nat{4, 0}),
	}
}

// others do not stand for 0: of both signs, lowest or not, with a Den of 0, and with numbers that end with noughts.
func others() []rat.Rat {
	var all []rat.Rat
	nums := []nat.Nat{{1}, {6}, {35, 0, 0}, {0, 1}, {6, 0, 6}, {9, 8, 7, 6, 5}}
	dens := []nat.Nat{nil, {0, 0}, {1}, {4, 0}, {35}, {0, 1 << 31}, {3, 0, 3, 0}}
	for i, num := range nums {
		for k, den := range dens {
			all = append(all, fraction((i+k)%2 == 1, num, den))
		}
	}
	return all
}

// fractions mixes both kinds, always in the same way.
func fractions() []rat.Rat {
	var all []rat.Rat
	none := noughts()
	for i, a := range others() {
		all = append(all, a)
		if i%4 == 0 {
			all = append(all, none[i/4%len(none)])
		}
	}
	return all
}

// someRows are of other lengths, nil and an empty one among them; some have noughts alone.
func someRows() [][]rat.Rat {
	all := fractions()
	rows := [][]rat.Rat{nil, {}, noughts(), noughts()[:1], {rat.Int(0), rat.Int(0)}, all}
	for i, long := range []int{1, 1, 2, 2, 3, 3, 4, 5, 7, 8, 8, 13} {
		rows = append(rows, all[i*3:i*3+long])
	}
	return append(rows, Ints(1, 2, 3), Ints(4, 5), Ints(-1, 0, 7, math.MinInt, math.MaxInt))
}

// eachTwo hands over every two of the rows.
func eachTwo(use func(a, b []rat.Rat)) {
	for _, a := range someRows() {
		for _, b := range someRows() {
			use(a, b)
		}
	}
}

// P5.1

func TestInts(t *testing.T) {
	numbers := []int{0, 1, -1, 7, -7, 1<<32 - 1, 1 << 32, -1 << 32, 1 << 62, -1 << 62, math.MaxInt, math.MinInt}
	sameRow(t, "Ints", Ints(numbers...), len(numbers), func(k int) *big.Rat { return new(big.Rat).SetInt64(int64(numbers[k])) })
	sameRow(t, "Ints of two", Ints(5, -5), 2, func(k int) *big.Rat { return big.NewRat(int64(5-10*k), 1) })
	if len(Ints()) > 0 || len(Ints([]int{}...)) > 0 || len(Ints(nil...)) > 0 {
		t.Errorf("Ints of none are some")
	}
}

func TestPairs(t *testing.T) {
	eachTwo(func(a, b []rat.Rat) {
		next := 0
		for k, p := range Pairs(a, b) {
			if k != next {
				t.Fatalf("Pairs goes to %d, want %d", k, next)
			}
			same(t, "Pairs, the first", p[0], valueAt(a, k))
			same(t, "Pairs, the second", p[1], valueAt(b, k))
			next++
		}
		if want := min(len(a), len(b)); next != want {
			t.Fatalf("Pairs of %d and %d places: %d", len(a), len(b), next)
		}
	})
}

// asked is the places that a function is asked about, if it tells false at one of them.
func asked(pairs func(yield func(k int, p [2]rat.Rat) bool), last int) []int {
	var places []int
	pairs(func(k int, _ [2]rat.Rat) bool {
		places = append(places, k)
		return k != last
	})
	return places
}

func TestPairsGoesNoFurther(t *testing.T) {
	a, b := Ints(1, 2, 3, 4, 5), Ints(6, 7, 8, 9, 10, 11)
	for _, c := range []struct {
		last int
		want []int
	}{
		{0, []int{0}}, {1, []int{0, 1}}, {2, []int{0, 1, 2}}, {4, []int{0, 1, 2, 3, 4}}, {-1, []int{0, 1, 2, 3, 4}},
	} {
		pairs := Pairs(a, b)
		// Each time it begins anew, however far it went the time before.
		for range 2 {
			if got := asked(pairs, c.last); !slices.Equal(got, c.want) {
				t.Errorf("Pairs, told false at %d: asks at %v", c.last, got)
			}
		}
		if got := asked(Pairs(b, a), c.last); !slices.Equal(got, c.want) {
			t.Errorf("Pairs of both exchanged, told false at %d: asks at %v", c.last, got)
		}
	}
	for k := range Pairs(a, b) {
		if k == 2 {
			break
		}
		if k > 2 {
			t.Errorf("Pairs goes on behind a break")
		}
	}
}

func TestPairsOfNone(t *testing.T) {
	row := Ints(1, 2)
	for _, c := range [][2][]rat.Rat{{nil, nil}, {nil, row}, {row, nil}, {{}, row}, {row, {}}, {row[:0], row}, {nil, {}}} {
		if got := asked(Pairs(c[0], c[1]), -1); len(got) > 0 {
			t.Errorf("Pairs of %v and %v asks at %v", c[0], c[1], got)
		}
	}
	Pairs(nil, nil)(nil)
	Pairs(row, row)(nil)
}

func TestDot(t *testing.T) {
	eachTwo(func(a, b []rat.Rat) {
		want := new(big.Rat)
		for k := range min(len(a), len(b)) {
			want.Add(want, new(big.Rat).Mul(value(a[k]), value(b[k])))
		}
		same(t, "Dot", Dot(a, b), want)
	})
	if s := rat.Text(Dot(Ints(1, 2, 3), Ints(4, 5))); s != "14" {
		t.Errorf("Dot of 1 2 3 and 4 5: %s", s)
	}
	same(t, "Dot of what goes up", Dot(Ints(3, -2), Ints(2, 3)), new(big.Rat))
}

func TestAdd(t *testing.T) {
	eachTwo(func(a, b []rat.Rat) {
		sameRow(t, "Add", Add(a, b), max(len(a), len(b)), func(k int) *big.Rat { return new(big.Rat).Add(valueAt(a, k), valueAt(b, k)) })
	})
}

func TestScale(t *testing.T) {
	for _, a := range someRows() {
		for _, by := range fractions() {
			sameRow(t, "Scale", Scale(a, by), len(a), func(k int) *big.Rat { return new(big.Rat).Mul(value(a[k]), value(by)) })
		}
	}
}

func TestSame(t *testing.T) {
	eachTwo(func(a, b []rat.Rat) {
		want := len(a) == len(b)
		for k := range max(len(a), len(b)) {
			want = want && valueAt(a, k).Cmp(valueAt(b, k)) == 0
		}
		if Same(a, b) != want {
			t.Fatalf("Same(%v, %v): %v", a, b, !want)
		}
	})
	for _, c := range []struct {
		a, b []rat.Rat
		want bool
	}{
		{nil, nil, true}, {nil, []rat.Rat{}, true}, {nil, Ints(0), false}, {Ints(0), nil, false}, {Ints(1), Ints(1, 0), false}, {Ints(1, 0), Ints(1), false},
		{Ints(1, 2, 3), Ints(1, 2, 3), true}, {Ints(1, 2, 3), Ints(9, 2, 3), false}, {Ints(1, 2, 3), Ints(1, 9, 3), false}, {Ints(1, 2, 3), Ints(1, 2, 9), false},
		{Ints(1, -2), Ints(1, 2), false}, {Ints(1, 2), Ints(2, 1), false},
		{[]rat.Rat{fraction(true, nat.Nat{6, 0}, nat.Nat{4})}, []rat.Rat{fraction(true, nat.Nat{3}, nat.Nat{2, 0})}, true},
		{[]rat.Rat{fraction(false, nat.Nat{7}, nil)}, Ints(7), true}, {[]rat.Rat{fraction(true, nat.Nat{0}, nil)}, Ints(0), true},
	} {
		if Same(c.a, c.b) != c.want {
			t.Errorf("Same(%v, %v): %v", c.a, c.b, !c.want)
		}
	}
}

func TestNoughtsAreTheSame(t *testing.T) {
	for _, a := range noughts() {
		for _, b := range noughts() {
			if !Same([]rat.Rat{a}, []rat.Rat{b}) {
				t.Errorf("Same tells %v from %v", a, b)
			}
		}
	}
}

func TestZero(t *testing.T) {
	for _, a := range someRows() {
		want := true
		for _, v := range a {
			want = want && value(v).Sign() == 0
		}
		if Zero(a) != want {
			t.Errorf("Zero(%v): %v", a, !want)
		}
	}
	if !Zero(nil) || !Zero([]rat.Rat{}) || !Zero(noughts()) || !Zero(Ints(0, 0, 0)) {
		t.Errorf("Zero of noughts alone is false")
	}
	for k := range 3 {
		for _, v := range others() {
			row := Ints(0, 0, 0)
			row[k] = v
			if Zero(row) {
				t.Errorf("Zero of a row with %v at %d is true", v, k)
			}
		}
	}
}

func TestTexts(t *testing.T) {
	for _, a := range someRows() {
		got := Texts(a)
		if len(got) != len(a) {
			t.Fatalf("Texts of %d: %d", len(a), len(got))
		}
		for k := range a {
			if want := value(a[k]).RatString(); got[k] != want {
				t.Fatalf("Texts at %d: %s, want %s", k, got[k], want)
			}
		}
	}
	row := []rat.Rat{{}, fraction(true, nil, nat.Nat{5}), fraction(true, nat.Nat{6, 0}, nat.Nat{4}), fraction(false, nat.Nat{8}, nat.Nat{4}), fraction(true, nat.Nat{7}, nil), fraction(false, nat.Nat{0, 1}, nat.Nat{1})}
	if got := Texts(row); !slices.Equal(got, []string{"0", "0", "-3/2", "2", "-7", "4294967296"}) {
		t.Errorf("Texts: %v", got)
	}
}

func TestLongRows(t *testing.T) {
	const long = 3000
	a, b := make([]rat.Rat, long), make([]rat.Rat, long+5)
	want := new(big.Rat)
	for k := range b {
		b[k] = rat.Int(k - long/3)
		if k < long {
			a[k] = fraction(k%2 == 1, nat.Of(uint64(6*k)), nat.Nat{4, 0})
			want.Add(want, new(big.Rat).Mul(value(a[k]), value(b[k])))
		}
	}
	same(t, "Dot of long rows", Dot(a, b), want)
	sameRow(t, "Add of long rows", Add(a, b), long+5, func(k int) *big.Rat { return new(big.Rat).Add(valueAt(a, k), value(b[k])) })
}
