package nat

import (
	"math/big"
	"slices"
	"testing"

	"offcut/api"
)

// The signatures are the document's; these lines do not build with others.
var (
	_ func(uint64) Nat                     = Of
	_ func(Nat) bool                       = Right
	_ func(Nat, Nat) int                   = Compare
	_ func(Nat, Nat) Nat                   = Add
	_ func(Nat, Nat) (Nat, bool)           = Sub
	_ func(Nat, Nat) Nat                   = Mul
	_ func(Nat, Nat) (Nat, Nat, api.Errno) = DivMod
	_ func(Nat, Nat) Nat                   = Gcd
	_ func(Nat) int                        = Bits
	_ func(Nat, int) Nat                   = Shift
	_ func(Nat) (uint64, bool)             = Small
	_ func(Nat) string                     = Text
	_ func(string) (Nat, api.Errno)        = Parse
	_ []uint32                             = Nat(nil)
)

// value is what a row stands for, by arithmetic that is not the package's own.
func value(a Nat) *big.Int {
	v := new(big.Int)
	for i := len(a) - 1; i >= 0; i-- {
		v.Lsh(v, 32)
		v.Or(v, new(big.Int).SetUint64(uint64(a[i])))
	}
	return v
}

// same fails the test unless got is want, told without noughts at its end.
func same(t *testing.T, what string, got Nat, want *big.Int) {
	t.Helper()
	if len(got) > 0 && got[len(got)-1] == 0 {
		t.Fatalf("%s: noughts at the end: %v", what, got)
	}
	if value(got).Cmp(want) != 0 {
		t.Fatalf("%s: got %v, want %v", what, value(got), want)
	}
}

// edgeRows are all rows of up to 3 words at the edges of a word, those that end with noughts among them.
func edgeRows() []Nat {
	words := []uint32{0, 1, 2, 1<<31 - 1, 1 << 31, 1<<32 - 1}
	rows := []Nat{nil}
	for from, round := 0, 0; round < 3; round++ {
		to := len(rows)
		for _, row := range rows[from:to] {
			for _, w := range words {
				rows = append(rows, append(slices.Clone(row), w))
			}
		}
		from = to
	}
	return rows
}

// longRows are rows of many words, always the same ones.
func longRows() []Nat {
	var rows []Nat
	state := uint64(1)
	next := func() uint32 {
		state = state*6364136223846793005 + 1442695040888963407
		return uint32(state >> 32)
	}
	for _, n := range []int{1, 2, 3, 4, 5, 7, 8, 15, 16, 17, 40, 80} {
		mixed, noughts, ones := make(Nat, n), make(Nat, n), make(Nat, n)
		for i := range n {
			mixed[i], ones[i] = next(), 1<<32-1
			if next()%3 == 0 {
				noughts[i] = next()
			}
		}
		rows = append(rows, mixed, noughts, ones, append(slices.Clone(mixed), 0, 0))
	}
	return rows
}

// eachPair hands over every two of the edge rows, and every two of the long ones.
func eachPair(use func(a, b Nat)) {
	for _, rows := range [][]Nat{edgeRows(), longRows()} {
		for _, a := range rows {
			for _, b := range rows {
				use(a, b)
			}
		}
	}
}

func eachRow(use func(a Nat)) {
	for _, a := range append(edgeRows(), longRows()...) {
		use(a)
	}
}

// P1.1

func TestOf(t *testing.T) {
	for _, c := range []struct {
		n    uint64
		want Nat
	}{
		{0, nil}, {1, Nat{1}}, {7, Nat{7}}, {1<<32 - 1, Nat{1<<32 - 1}}, {1 << 32, Nat{0, 1}}, {1<<32 + 1, Nat{1, 1}},
		{1 << 63, Nat{0, 1 << 31}}, {1<<64 - 1, Nat{1<<32 - 1, 1<<32 - 1}},
	} {
		if got := Of(c.n); !slices.Equal(got, c.want) {
			t.Errorf("Of(%d): %v", c.n, got)
		}
	}
}

func TestRight(t *testing.T) {
	for _, a := range []Nat{nil, {}, {1}, {0, 1}, {1<<32 - 1}, {0, 0, 5}} {
		if !Right(a) {
			t.Errorf("Right(%v) is false", a)
		}
	}
	for _, a := range []Nat{{0}, {0, 0}, {1, 0}, {1, 2, 0, 0}} {
		if Right(a) {
			t.Errorf("Right(%v) is true", a)
		}
	}
}

func TestSmall(t *testing.T) {
	for _, c := range []struct {
		a    Nat
		want uint64
		is   bool
	}{
		{nil, 0, true}, {Nat{}, 0, true}, {Nat{0, 0, 0, 0}, 0, true}, {Nat{5}, 5, true}, {Nat{5, 0, 0}, 5, true}, {Nat{0, 1}, 1 << 32, true},
		{Nat{1<<32 - 1, 1<<32 - 1}, 1<<64 - 1, true}, {Nat{1<<32 - 1, 1<<32 - 1, 0}, 1<<64 - 1, true},
		{Nat{0, 0, 1}, 0, false}, {Nat{7, 0, 1, 0}, 0, false}, {Nat{1, 2, 3, 4}, 0, false},
	} {
		if got, is := Small(c.a); got != c.want || is != c.is {
			t.Errorf("Small(%v): %d %v", c.a, got, is)
		}
	}
}

func TestCompare(t *testing.T) {
	eachPair(func(a, b Nat) {
		if got, want := Compare(a, b), value(a).Cmp(value(b)); got != want {
			t.Fatalf("Compare(%v, %v): %d, want %d", a, b, got, want)
		}
	})
}

func TestAdd(t *testing.T) {
	eachPair(func(a, b Nat) { same(t, "Add", Add(a, b), new(big.Int).Add(value(a), value(b))) })
}

func TestMul(t *testing.T) {
	eachPair(func(a, b Nat) { same(t, "Mul", Mul(a, b), new(big.Int).Mul(value(a), value(b))) })
}

func TestSub(t *testing.T) {
	eachPair(func(a, b Nat) {
		want := new(big.Int).Sub(value(a), value(b))
		got, is := Sub(a, b)
		if is != (want.Sign() >= 0) {
			t.Fatalf("Sub(%v, %v): %v", a, b, is)
		}
		if !is {
			want.SetInt64(0)
		}
		same(t, "Sub", got, want)
	})
}

// P1.2

func TestDivMod(t *testing.T) {
	eachPair(func(a, b Nat) { divides(t, a, b) })
}

// TestDivModGuess: quotients of which a word is guessed too great from the highest words alone.
func TestDivModGuess(t *testing.T) {
	for _, c := range [][2]Nat{
		{{3, 0, 1 << 31}, {1, 0, 1 << 29}},
		{{0, 1<<32 - 2, 1 << 31}, {1<<32 - 1, 1 << 31}},
		{{0, 0, 1 << 31, 1<<31 - 1}, {1, 0, 1 << 31}},
		{{0, 0, 0, 1 << 31}, {1<<32 - 1, 1<<32 - 1, 1 << 31}},
		{{0, 1<<32 - 1, 1<<32 - 2, 1<<32 - 1}, {1<<32 - 1, 1<<32 - 1, 1<<32 - 1}},
		{{0, 0, 0, 1}, {1<<32 - 1, 1<<32 - 1}},
		{{0, 4, 0, 1 << 31}, {5, 0, 1 << 31}},
		{{1<<32 - 1, 4, 0, 1<<32 - 1}, {5, 0, 1<<32 - 1}},
	} {
		divides(t, c[0], c[1])
	}
	// One less than a multiple, and the multiple itself: each word of the quotient is as great as it can be.
	for _, b := range edgeRows() {
		for _, n := range []int{32, 64, 95} {
			multiple := Shift(b, n)
			divides(t, multiple, b)
			if less, is := Sub(multiple, Of(1)); is {
				divides(t, less, b)
			}
		}
	}
}

func divides(t *testing.T, a, b Nat) {
	t.Helper()
	quotient, left, e := DivMod(a, b)
	if value(b).Sign() == 0 {
		if e != api.ErrZero || len(quotient) != 0 || len(left) != 0 {
			t.Fatalf("DivMod(%v, %v): %v %v %d", a, b, quotient, left, e)
		}
		return
	}
	if e != api.OK {
		t.Fatalf("DivMod(%v, %v): error %d", a, b, e)
	}
	want, rest := new(big.Int).QuoRem(value(a), value(b), new(big.Int))
	same(t, "DivMod, quotient", quotient, want)
	same(t, "DivMod, what is left", left, rest)
}

func TestGcd(t *testing.T) {
	eachPair(func(a, b Nat) {
		same(t, "Gcd", Gcd(a, b), new(big.Int).GCD(nil, nil, value(a), value(b)))
	})
	for _, c := range [][2]Nat{{nil, nil}, {{}, {0}}, {{0, 0}, {0, 0, 0}}} {
		if got := Gcd(c[0], c[1]); len(got) != 0 {
			t.Errorf("Gcd(%v, %v): %v", c[0], c[1], got)
		}
	}
	common := Shift(Of(1<<61-1), 300)
	same(t, "Gcd", Gcd(Mul(common, Of(1000003)), Mul(common, Of(999983))), value(common))
}

func TestBits(t *testing.T) {
	eachRow(func(a Nat) {
		if got, want := Bits(a), value(a).BitLen(); got != want {
			t.Fatalf("Bits(%v): %d, want %d", a, got, want)
		}
	})
}

func TestShift(t *testing.T) {
	const most = 1 << 16
	for _, n := range []int{0, 1, 31, 32, 33, 63, 64, 65, 1000, most - 1, most} {
		for _, a := range append(longRows(), nil, Nat{}, Nat{0, 0}, Nat{1}, Nat{5, 0}) {
			same(t, "Shift", Shift(a, n), new(big.Int).Lsh(value(a), uint(n)))
		}
	}
	for _, n := range []int{-1, -32, -1 << 63, most + 1, most * 2, 1<<63 - 1} {
		eachRow(func(a Nat) { same(t, "Shift by what may not be", Shift(a, n), value(a)) })
	}
}

// P1.4

func TestWhatIsAddedIsTakenOffAgain(t *testing.T) {
	eachPair(func(a, b Nat) {
		got, is := Sub(Add(a, b), b)
		if !is {
			t.Fatalf("Sub(Add(%v, %v), the second) is false", a, b)
		}
		same(t, "Sub of Add", got, value(a))
	})
}

func TestQuotientAndRestMakeTheNumber(t *testing.T) {
	eachPair(func(a, b Nat) {
		quotient, left, e := DivMod(a, b)
		if e != api.OK {
			return
		}
		if Compare(left, b) >= 0 {
			t.Fatalf("DivMod(%v, %v): %v is left", a, b, left)
		}
		same(t, "b times the quotient, and what is left", Add(Mul(b, quotient), left), value(a))
	})
}
