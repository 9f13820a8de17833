package whole

import (
	"math"
	"math/big"
	"slices"
	"testing"

	"offcut/api"
	"offcut/nat"
)

// The signatures are the document's; these lines do not build with others.
var (
	_ func(int) Int                        = Of
	_ func(bool, nat.Nat) Int              = Make
	_ func(Int) bool                       = Right
	_ func(Int) int                        = Sign
	_ func(Int, Int) int                   = Compare
	_ func(Int) Int                        = Neg
	_ func(Int, Int) Int                   = Add
	_ func(Int, Int) Int                   = Sub
	_ func(Int, Int) Int                   = Mul
	_ func(Int, Int) (Int, Int, api.Errno) = Floor
	_ func(Int) (int, bool)                = Small
	_ func(Int) string                     = Text
	_ func(string) (Int, api.Errno)        = Parse
	_                                      = struct {
		Minus bool
		Size  nat.Nat
	}(Int{})
)

// value is what a number stands for, by arithmetic that is not the program's own.
func value(a Int) *big.Int {
	v := new(big.Int)
	for _, word := range slices.Backward(a.Size) {
		v.Lsh(v, 32)
		v.Or(v, new(big.Int).SetUint64(uint64(word)))
	}
	if a.Minus {
		v.Neg(v)
	}
	return v
}

// same fails the test unless got is want, as it is told.
func same(t *testing.T, what string, got Int, want *big.Int) {
	t.Helper()
	if n := len(got.Size); n > 0 && got.Size[n-1] == 0 || n == 0 && got.Minus {
		t.Fatalf("%s: not as it is told: %v", what, got)
	}
	if value(got).Cmp(want) != 0 {
		t.Fatalf("%s: got %v, want %v", what, value(got), want)
	}
}

// both is a size with each of the two signs.
func both(sizes ...nat.Nat) []Int {
	var numbers []Int
	for _, size := range sizes {
		numbers = append(numbers, Int{false, size}, Int{true, size})
	}
	return numbers
}

// edgeNumbers are sizes at the edges of a word and of Small, of both signs, those that end with noughts among them.
func edgeNumbers() []Int {
	sizes := []nat.Nat{
		nil, {}, {0}, {0, 0, 0}, {1}, {1, 0}, {2}, {3, 0, 0}, {5}, {6}, {7}, {12}, {1<<32 - 1}, {1<<32 - 1, 0},
		{0, 1}, {1, 1}, {0, 1, 0}, {1<<32 - 1, 1<<30 - 1}, {0, 1 << 30}, {1, 1 << 30}, {0, 1 << 30, 0}, {1<<32 - 1, 1<<31 - 1},
		{0, 1 << 31}, {1<<32 - 1, 1<<32 - 1}, {0, 0, 1}, {1, 0, 1}, {0, 0, 2}, {1<<32 - 1, 1<<32 - 1, 1<<32 - 1}, {0, 0, 0, 1, 0, 0},
	}
	return both(sizes...)
}

// longNumbers are numbers of many words, always the same ones.
func longNumbers() []Int {
	var sizes []nat.Nat
	state := uint64(2)
	for _, n := range []int{1, 2, 3, 4, 5, 7, 16, 17, 40} {
		size := make(nat.Nat, n)
		for i := range n {
			state = state*6364136223846793005 + 1442695040888963407
			size[i] = uint32(state >> 32)
		}
		sizes = append(sizes, size, append(slices.Clone(size), 0, 0))
	}
	return both(sizes...)
}

func allNumbers() []Int {
	return append(edgeNumbers(), longNumbers()...)
}

// eachPair hands over every two of all numbers, and every two of the small ones.
func eachPair(use func(a, b Int)) {
	for _, a := range allNumbers() {
		for _, b := range allNumbers() {
			use(a, b)
		}
	}
	for x := -30; x <= 30; x++ {
		for y := -30; y <= 30; y++ {
			use(Of(x), Of(y))
		}
	}
}

// P2.1

func TestOf(t *testing.T) {
	for _, n := range []int{
		0, 1, -1, 7, -7, 1<<32 - 1, 1 << 32, -1 << 32, 1<<62 - 1, 1 << 62, -1 << 62, -1<<62 - 1,
		math.MaxInt, math.MaxInt - 1, math.MinInt, math.MinInt + 1,
	} {
		same(t, "Of", Of(n), big.NewInt(int64(n)))
	}
}

func TestMake(t *testing.T) {
	for _, a := range allNumbers() {
		same(t, "Make", Make(a.Minus, a.Size), value(a))
	}
	if got := Make(true, nat.Nat{0, 0}); got.Minus || len(got.Size) != 0 {
		t.Errorf("Make of a 0 with Minus: %v", got)
	}
	if got := Make(true, nat.Nat{5, 0}); !got.Minus || !slices.Equal(got.Size, nat.Nat{5}) {
		t.Errorf("Make of -5 with a nought at the end: %v", got)
	}
}

func TestRight(t *testing.T) {
	for _, a := range []Int{{}, {false, nat.Nat{}}, {false, nat.Nat{1}}, {true, nat.Nat{1}}, {true, nat.Nat{0, 1}}, {false, nat.Nat{0, 0, 9}}} {
		if !Right(a) {
			t.Errorf("Right(%v) is false", a)
		}
	}
	for _, a := range []Int{{true, nil}, {true, nat.Nat{}}, {true, nat.Nat{0}}, {false, nat.Nat{0}}, {false, nat.Nat{1, 0}}, {true, nat.Nat{1, 0}}, {true, nat.Nat{0, 1, 0, 0}}} {
		if Right(a) {
			t.Errorf("Right(%v) is true", a)
		}
	}
}

func TestSign(t *testing.T) {
	for _, a := range allNumbers() {
		if got, want := Sign(a), value(a).Sign(); got != want {
			t.Errorf("Sign(%v): %d, want %d", a, got, want)
		}
	}
	for _, a := range []Int{{true, nil}, {true, nat.Nat{}}, {true, nat.Nat{0, 0}}} {
		if got := Sign(a); got != 0 {
			t.Errorf("Sign(%v): %d", a, got)
		}
	}
}

func TestCompare(t *testing.T) {
	eachPair(func(a, b Int) {
		if got, want := Compare(a, b), value(a).Cmp(value(b)); got != want {
			t.Fatalf("Compare(%v, %v): %d, want %d", a, b, got, want)
		}
	})
	if Compare(Int{true, nil}, Int{false, nat.Nat{0}}) != 0 || Compare(Int{true, nat.Nat{0}}, Of(-1)) != 1 || Compare(Int{true, nil}, Of(1)) != -1 {
		t.Error("Compare of a 0 with Minus")
	}
}

func TestNeg(t *testing.T) {
	for _, a := range allNumbers() {
		same(t, "Neg", Neg(a), new(big.Int).Neg(value(a)))
	}
}

func TestAddSubMul(t *testing.T) {
	eachPair(func(a, b Int) {
		same(t, "Add", Add(a, b), new(big.Int).Add(value(a), value(b)))
		same(t, "Sub", Sub(a, b), new(big.Int).Sub(value(a), value(b)))
		same(t, "Mul", Mul(a, b), new(big.Int).Mul(value(a), value(b)))
	})
}

func TestSmall(t *testing.T) {
	least, end := big.NewInt(-1<<62), big.NewInt(1<<62)
	for _, a := range allNumbers() {
		v := value(a)
		want, is := 0, v.Cmp(least) >= 0 && v.Cmp(end) < 0
		if is {
			want = int(v.Int64())
		}
		if got, gotIs := Small(a); got != want || gotIs != is {
			t.Errorf("Small(%v): %d %v, want %d %v", a, got, gotIs, want, is)
		}
	}
	for _, n := range []int{0, 1, -1, 1<<62 - 1, -1 << 62, -1<<62 + 1} {
		if got, is := Small(Of(n)); got != n || !is {
			t.Errorf("Small(%d): %d %v", n, got, is)
		}
	}
	for _, a := range []Int{Of(1 << 62), Of(-1<<62 - 1), Of(math.MaxInt), Of(math.MinInt), {true, nat.Nat{0, 0, 1}}, {false, nat.Nat{1, 0, 1}}} {
		if got, is := Small(a); got != 0 || is {
			t.Errorf("Small(%v): %d %v", a, got, is)
		}
	}
}

// P2.2

func TestFloor(t *testing.T) {
	eachPair(func(a, b Int) { floors(t, a, b) })
	// Next to a multiple, on both of its sides, and on it.
	for _, b := range allNumbers() {
		for _, times := range []int{-3, -1, 0, 1, 2} {
			multiple := Mul(b, Of(times))
			for _, more := range []int{-1, 0, 1} {
				floors(t, Add(multiple, Of(more)), b)
			}
		}
	}
}

func floors(t *testing.T, a, b Int) {
	t.Helper()
	quotient, left, e := Floor(a, b)
	y := value(b)
	if y.Sign() == 0 {
		if e != api.ErrZero || quotient.Minus || left.Minus || len(quotient.Size) != 0 || len(left.Size) != 0 {
			t.Fatalf("Floor(%v, %v): %v %v %d", a, b, quotient, left, e)
		}
		return
	}
	if e != api.OK {
		t.Fatalf("Floor(%v, %v): error %d", a, b, e)
	}
	// The library's quotient leaves nothing below 0; down means one less where the divisor is below 0 and something is left.
	want, rest := new(big.Int).DivMod(value(a), y, new(big.Int))
	if y.Sign() < 0 && rest.Sign() > 0 {
		want.Sub(want, big.NewInt(1))
		rest.Add(rest, y)
	}
	same(t, "Floor, quotient", quotient, want)
	same(t, "Floor, what is left", left, rest)
	if rest.Sign() != 0 && rest.Sign() != y.Sign() || rest.CmpAbs(y) >= 0 {
		t.Fatalf("Floor(%v, %v): %v is left", a, b, rest)
	}
}

func TestFloorOfTheChapter(t *testing.T) {
	for _, c := range [][4]int{
		{-7, 2, -4, 1}, {7, -2, -4, -1}, {7, 2, 3, 1}, {-7, -2, 3, -1}, {-6, 2, -3, 0}, {6, -2, -3, 0}, {-6, -2, 3, 0},
		{0, 5, 0, 0}, {0, -5, 0, 0}, {1, 5, 0, 1}, {-1, 5, -1, 4}, {1, -5, -1, -4}, {-1, -5, 0, -1},
	} {
		quotient, left, e := Floor(Of(c[0]), Of(c[1]))
		if e != api.OK {
			t.Fatalf("Floor(%d, %d): error %d", c[0], c[1], e)
		}
		same(t, "Floor, quotient", quotient, big.NewInt(int64(c[2])))
		same(t, "Floor, what is left", left, big.NewInt(int64(c[3])))
	}
}
