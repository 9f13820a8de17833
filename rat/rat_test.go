package rat

import (
	"math"
	"math/big"
	"slices"
	"testing"

	"offcut/api"
	"offcut/nat"
	"offcut/whole"
)

// The signatures are the document's; these lines do not build with others.
var (
	_ func(int, int) (Rat, api.Errno) = Of
	_ func(int) Rat                   = Int
	_ func(whole.Int, nat.Nat) Rat    = Make
	_ func(Rat) bool                  = Right
	_ func(Rat) int                   = Sign
	_ func(Rat, Rat) int              = Compare
	_ func(Rat) Rat                   = Neg
	_ func(Rat, Rat) Rat              = Add
	_ func(Rat, Rat) Rat              = Sub
	_ func(Rat, Rat) Rat              = Mul
	_ func(Rat, Rat) (Rat, api.Errno) = Div
	_ func(Rat) whole.Int             = Floor
	_ func(Rat) whole.Int             = Ceil
	_ func(Rat) bool                  = Whole
	_ func(...Rat) Rat                = Sum
	_ func(Rat) string                = Text
	_ func(string) (Rat, api.Errno)   = Parse
	_                                 = struct {
		Num whole.Int
		Den nat.Nat
	}(Rat{})
)

// size is what a row of words stands for, by arithmetic that is not the program's own.
func size(a nat.Nat) *big.Int {
	v := new(big.Int)
	for _, word := range slices.Backward(a) {
		v.Lsh(v, 32)
		v.Or(v, new(big.Int).SetUint64(uint64(word)))
	}
	return v
}

func signed(a whole.Int) *big.Int {
	v := size(a.Size)
	if a.Minus {
		v.Neg(v)
	}
	return v
}

// value is what a fraction stands for.
func value(a Rat) *big.Rat {
	den := size(a.Den)
	if den.Sign() == 0 {
		den.SetInt64(1)
	}
	return new(big.Rat).SetFrac(signed(a.Num), den)
}

func endsWithNought(a nat.Nat) bool {
	return len(a) > 0 && a[len(a)-1] == 0
}

// sameWhole fails the test unless got is want, as it is told.
func sameWhole(t *testing.T, what string, got whole.Int, want *big.Int) {
	t.Helper()
	if endsWithNought(got.Size) || got.Minus && len(got.Size) == 0 {
		t.Fatalf("%s: not as it is told: %v", what, got)
	}
	if signed(got).Cmp(want) != 0 {
		t.Fatalf("%s: got %v, want %v", what, signed(got), want)
	}
}

// same fails the test unless got is want, lowest; a big.Rat always is.
func same(t *testing.T, what string, got Rat, want *big.Rat) {
	t.Helper()
	sameWhole(t, what+", its Num", got.Num, want.Num())
	if endsWithNought(got.Den) {
		t.Fatalf("%s: a Den that ends with a nought: %v", what, got)
	}
	if size(got.Den).Cmp(want.Denom()) != 0 {
		t.Fatalf("%s: got Den %v, want %v", what, size(got.Den), want.Denom())
	}
}

// edgeFractions are of both signs, and lowest or not; with a Den of 0, a 0 with Minus, and numbers that end with noughts among them.
func edgeFractions() []Rat {
	nums := []nat.Nat{nil, {0, 0}, {1}, {1, 0}, {2}, {6}, {35, 0, 0}, {1<<32 - 1}, {0, 1}, {0, 1 << 31}, {6, 0, 6}}
	dens := []nat.Nat{nil, {}, {0, 0}, {1}, {1, 0, 0}, {2}, {4, 0}, {6}, {35}, {1<<32 - 1}, {0, 1}, {0, 1 << 31}, {3, 0, 3, 0}}
	var fractions []Rat
	for _, num := range nums {
		for _, den := range dens {
			fractions = append(fractions, Rat{whole.Int{Size: num}, den}, Rat{whole.Int{Minus: true, Size: num}, den})
		}
	}
	return fractions
}

// longFractions have numbers of many words, with a divisor of both in some, always the same ones.
func longFractions() []Rat {
	state := uint64(3)
	row := func(n int) nat.Nat {
		a := make(nat.Nat, n)
		for i := range n {
			state = state*6364136223846793005 + 1442695040888963407
			a[i] = uint32(state >> 32)
		}
		return a
	}
	var fractions []Rat
	for i, n := range []int{1, 2, 3, 5, 9, 20} {
		for k, m := range []int{1, 3, 6} {
			shared := row(1 + k)
			num, den := nat.Mul(row(n), shared), nat.Mul(row(m), shared)
			fractions = append(fractions,
				Rat{whole.Int{Minus: (i+k)%2 == 1, Size: row(n)}, row(m)},
				Rat{whole.Int{Minus: k%2 == 1, Size: num}, den},
				Rat{whole.Int{Minus: i%2 == 1, Size: append(num, 0)}, append(shared, 0, 0)})
		}
	}
	return fractions
}

func allFractions() []Rat {
	return append(edgeFractions(), longFractions()...)
}

// eachPair hands over every two of all fractions, and every two of the small ones, not lowest ones too.
func eachPair(use func(a, b Rat)) {
	all := allFractions()
	for _, a := range all {
		for _, b := range all {
			use(a, b)
		}
	}
	var small []Rat
	for n := -8; n <= 8; n++ {
		for d := range 9 {
			small = append(small, Rat{whole.Of(n), nat.Of(uint64(d))})
		}
	}
	for _, a := range small {
		for _, b := range small {
			use(a, b)
		}
	}
}

// P3.1

func TestOf(t *testing.T) {
	numbers := []int{
		0, 1, -1, 2, -2, 6, -4, 12, 30, -45, 1<<32 - 1, 1 << 32, -1 << 32, 1 << 62, -1 << 62,
		math.MaxInt, math.MaxInt - 1, math.MinInt, math.MinInt + 1,
	}
	for _, n := range numbers {
		same(t, "Int", Int(n), new(big.Rat).SetInt64(int64(n)))
		for _, d := range numbers {
			got, e := Of(n, d)
			if d == 0 {
				if e != api.ErrZero || len(got.Num.Size) > 0 || got.Num.Minus || nat.Bits(got.Den) > 1 {
					t.Errorf("Of(%d, 0): %v, error %d", n, got, e)
				}
				continue
			}
			if e != api.OK {
				t.Fatalf("Of(%d, %d): error %d", n, d, e)
			}
			same(t, "Of", got, new(big.Rat).SetFrac(big.NewInt(int64(n)), big.NewInt(int64(d))))
		}
	}
}

func TestMake(t *testing.T) {
	for _, a := range allFractions() {
		same(t, "Make", Make(a.Num, a.Den), value(a))
	}
}

func TestNoughtIsNoughtByOne(t *testing.T) {
	quotient, _ := Div(Rat{}, Int(-5))
	made, _ := Of(0, -7)
	read, _ := Parse("-0/9")
	nought := whole.Int{Minus: true, Size: nat.Nat{0}}
	for i, got := range []Rat{
		Int(0), made, quotient, read, Make(whole.Int{}, nil), Make(nought, nat.Nat{6, 0}), Neg(Rat{}), Neg(Rat{nought, nat.Nat{4}}),
		Add(Int(3), Int(-3)), Sub(Int(3), Int(3)), Mul(Int(-3), Rat{Den: nat.Nat{2}}), Add(Rat{}, Rat{}), Sum(), Sum(Rat{}), Sum(Rat{nought, nil}), Sum(Int(1), Int(-1)),
	} {
		if got.Num.Minus || len(got.Num.Size) > 0 || !slices.Equal(got.Den, nat.Nat{1}) {
			t.Errorf("0, in way %d: %v", i, got)
		}
	}
}

func TestRight(t *testing.T) {
	fraction := func(minus bool, num, den nat.Nat) Rat { return Rat{whole.Int{Minus: minus, Size: num}, den} }
	for _, a := range []Rat{
		fraction(false, nil, nat.Nat{1}), fraction(false, nat.Nat{}, nat.Nat{1}), fraction(true, nat.Nat{3}, nat.Nat{2}), fraction(false, nat.Nat{1}, nat.Nat{1}),
		fraction(false, nat.Nat{1}, nat.Nat{0, 1}), fraction(true, nat.Nat{3}, nat.Nat{0, 0, 1}), fraction(false, nat.Nat{0, 1}, nat.Nat{1}),
	} {
		if !Right(a) {
			t.Errorf("Right(%v) is false", a)
		}
	}
	for _, a := range []Rat{
		{}, fraction(false, nat.Nat{1}, nil), fraction(true, nat.Nat{1}, nat.Nat{}), fraction(false, nat.Nat{1}, nat.Nat{0}), fraction(false, nat.Nat{7}, nil),
		fraction(true, nil, nat.Nat{1}), fraction(false, nat.Nat{0}, nat.Nat{1}), fraction(false, nil, nat.Nat{2}), fraction(false, nil, nat.Nat{1, 0}),
		fraction(false, nat.Nat{3, 0}, nat.Nat{2}), fraction(false, nat.Nat{3}, nat.Nat{2, 0}), fraction(false, nat.Nat{2}, nat.Nat{4}),
		fraction(true, nat.Nat{6}, nat.Nat{4}), fraction(false, nat.Nat{5}, nat.Nat{5}), fraction(true, nat.Nat{0, 3}, nat.Nat{0, 5}),
	} {
		if Right(a) {
			t.Errorf("Right(%v) is true", a)
		}
	}
	for _, a := range allFractions() {
		den := size(a.Den)
		divisor := new(big.Int).GCD(nil, nil, size(a.Num.Size), den)
		want := den.Sign() > 0 && divisor.IsInt64() && divisor.Int64() == 1 &&
			!endsWithNought(a.Den) && !endsWithNought(a.Num.Size) && (!a.Num.Minus || len(a.Num.Size) > 0)
		if Right(a) != want {
			t.Errorf("Right(%v) is %v", a, !want)
		}
		if !Right(Make(a.Num, a.Den)) {
			t.Errorf("Right(Make(%v)) is false", a)
		}
	}
}

func TestSignAndNeg(t *testing.T) {
	for _, a := range allFractions() {
		if got, want := Sign(a), value(a).Sign(); got != want {
			t.Errorf("Sign(%v): %d, want %d", a, got, want)
		}
		same(t, "Neg", Neg(a), new(big.Rat).Neg(value(a)))
	}
}

func TestCompare(t *testing.T) {
	eachPair(func(a, b Rat) {
		if got, want := Compare(a, b), value(a).Cmp(value(b)); got != want {
			t.Fatalf("Compare(%v, %v): %d, want %d", a, b, got, want)
		}
	})
}

func TestAddSubMulAndDiv(t *testing.T) {
	eachPair(func(a, b Rat) {
		x, y := value(a), value(b)
		same(t, "Add", Add(a, b), new(big.Rat).Add(x, y))
		same(t, "Sub", Sub(a, b), new(big.Rat).Sub(x, y))
		same(t, "Mul", Mul(a, b), new(big.Rat).Mul(x, y))
		got, e := Div(a, b)
		if y.Sign() == 0 {
			if e != api.ErrZero || len(got.Num.Size) > 0 || got.Num.Minus || nat.Bits(got.Den) > 1 {
				t.Fatalf("Div(%v, 0): %v, error %d", a, got, e)
			}
			return
		}
		if e != api.OK {
			t.Fatalf("Div(%v, %v): error %d", a, b, e)
		}
		same(t, "Div", got, new(big.Rat).Quo(x, y))
	})
}

func TestSum(t *testing.T) {
	same(t, "Sum of none", Sum(), new(big.Rat))
	same(t, "Sum of an empty list", Sum([]Rat{}...), new(big.Rat))
	all := allFractions()
	for i, a := range all {
		same(t, "Sum of one", Sum(a), value(a))
		same(t, "Sum of two", Sum(a, a), new(big.Rat).Add(value(a), value(a)))
		some := all[i:min(i+5, len(all))]
		want := new(big.Rat)
		for _, b := range some {
			want.Add(want, value(b))
		}
		same(t, "Sum of several", Sum(some...), want)
	}
	var parts []Rat
	for n := 1; n <= 200; n++ {
		part, _ := Of(1, n*(n+1))
		parts = append(parts, part)
	}
	same(t, "Sum of many", Sum(parts...), big.NewRat(200, 201))
}

// P3.2

func TestFloorCeilAndWhole(t *testing.T) {
	check := func(a Rat) {
		x := value(a)
		// Euclid's quotient is the one rounded down, as a Denom is never below 0.
		down := new(big.Int).Div(x.Num(), x.Denom())
		up := new(big.Int).Set(down)
		if !x.IsInt() {
			up.Add(up, big.NewInt(1))
		}
		sameWhole(t, "Floor", Floor(a), down)
		sameWhole(t, "Ceil", Ceil(a), up)
		if Whole(a) != x.IsInt() {
			t.Fatalf("Whole(%v): %v", a, Whole(a))
		}
	}
	for _, a := range allFractions() {
		check(a)
	}
	for n := -25; n <= 25; n++ {
		for d := range 8 {
			check(Rat{whole.Of(n), nat.Of(uint64(d))})
		}
	}
}

func TestFloorCeilAndWholeOfSome(t *testing.T) {
	for _, c := range []struct {
		n, d     int
		down, up string
		is       bool
	}{
		{6, -4, "-2", "-1", false}, {6, 4, "1", "2", false}, {-1, 3, "-1", "0", false}, {1, 3, "0", "1", false},
		{8, 4, "2", "2", true}, {-8, 4, "-2", "-2", true}, {0, 5, "0", "0", true}, {-7, 1, "-7", "-7", true}, {math.MinInt, 1, "-9223372036854775808", "-9223372036854775808", true},
		{math.MinInt, math.MaxInt, "-2", "-1", false}, {math.MaxInt, math.MinInt, "-1", "0", false},
	} {
		a, _ := Of(c.n, c.d)
		if whole.Text(Floor(a)) != c.down || whole.Text(Ceil(a)) != c.up || Whole(a) != c.is {
			t.Errorf("of %d by %d: %s %s %v", c.n, c.d, whole.Text(Floor(a)), whole.Text(Ceil(a)), Whole(a))
		}
	}
}
