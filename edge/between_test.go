package edge

import (
	"math"
	"math/big"
	"slices"
	"testing"

	"offcut/nat"
	"offcut/rat"
	"offcut/whole"
)

// P4.2

// checkSides holds what Between and Near tell of a against the document's words, by other arithmetic.
func checkSides(t *testing.T, a rat.Rat) {
	t.Helper()
	v := value(a)
	low, high := Between(a)
	near := Near(a)
	for _, f := range []float64{low, high, near} {
		if f == 0 && math.Signbit(f) || math.IsNaN(f) {
			t.Fatalf("of %v: %g, %g, near %g: a zero with a sign, or no number", v, low, high, near)
		}
	}
	if !notAbove(low, v) || notAbove(math.Nextafter(low, math.Inf(1)), v) {
		t.Fatalf("Between(%v): the first is %g", v, low)
	}
	if !notBelow(high, v) || notBelow(math.Nextafter(high, math.Inf(-1)), v) {
		t.Fatalf("Between(%v): the second is %g", v, high)
	}
	if want := nearest(low, high, v); near != want {
		t.Fatalf("Near(%v): %g, want %g", v, near, want)
	}
}

func notAbove(f float64, v *big.Rat) bool {
	return math.IsInf(f, -1) || !math.IsInf(f, 1) && of(f).Cmp(v) <= 0
}

func notBelow(f float64, v *big.Rat) bool {
	return math.IsInf(f, 1) || !math.IsInf(f, -1) && of(f).Cmp(v) >= 0
}

// nearest tells by the distances which of two is nearer to v.
func nearest(low, high float64, v *big.Rat) float64 {
	if math.IsInf(low, 0) {
		return high
	}
	if math.IsInf(high, 0) {
		return low
	}
	below, above := new(big.Rat).Sub(v, of(low)), new(big.Rat).Sub(of(high), v)
	switch below.Cmp(above) {
	case -1:
		return low
	case 1:
		return high
	}
	if math.Float64bits(low)&1 == 0 {
		return low
	}
	return high
}

func TestBetweenOfFloats(t *testing.T) {
	for _, f := range numbers() {
		a := fraction(of(f))
		for _, b := range []rat.Rat{a, wider(a)} {
			if low, high := Between(b); low != f || high != f || Near(b) != f {
				t.Fatalf("of %g: %g %g, near %g", f, low, high, Near(b))
			}
			checkSides(t, b)
		}
	}
}

func TestBetweenOfWhatLiesBetween(t *testing.T) {
	for _, f := range numbers() {
		next := math.Nextafter(f, math.Inf(1))
		if math.IsInf(next, 1) {
			continue
		}
		gap := new(big.Rat).Sub(of(next), of(f))
		for _, part := range []*big.Rat{
			big.NewRat(1, 2), big.NewRat(1, 3), big.NewRat(2, 3), big.NewRat(1<<61-1, 1<<62), big.NewRat(1<<61+1, 1<<62), big.NewRat(1, 1<<62), big.NewRat(1<<62-1, 1<<62),
		} {
			a := fraction(new(big.Rat).Add(of(f), new(big.Rat).Mul(gap, part)))
			if low, high := Between(a); low != f || high != next {
				t.Fatalf("Between of a part %v from %g to the next: %g %g", part, f, low, high)
			}
			checkSides(t, a)
		}
	}
}

func TestBetweenOfSome(t *testing.T) {
	endless := math.Inf(1)
	least, most := math.Float64frombits(leastBits), math.Float64frombits(greatestBits)
	part := func(f float64, n, d int64) *big.Rat { return new(big.Rat).Mul(of(f), big.NewRat(n, d)) }
	lastGap := powerOfTwo(971)
	above := func(n, d int64) *big.Rat {
		return new(big.Rat).Add(of(most), new(big.Rat).Mul(lastGap, big.NewRat(n, d)))
	}
	for i, c := range []struct {
		v               *big.Rat
		low, high, near float64
	}{
		{big.NewRat(0, 1), 0, 0, 0},
		{big.NewRat(1, 10), math.Nextafter(0.1, 0), 0.1, 0.1},
		{big.NewRat(1, 3), 1.0 / 3, math.Nextafter(1.0/3, 1), 1.0 / 3},
		{big.NewRat(1<<53+1, 1), 1 << 53, 1<<53 + 2, 1 << 53},
		{big.NewRat(1<<53+3, 1), 1<<53 + 2, 1<<53 + 4, 1<<53 + 4},
		{big.NewRat(1<<54-1, 1), 1<<54 - 2, 1 << 54, 1 << 54},
		{part(least, 1, 2), 0, least, 0},
		{part(least, 1, 1000), 0, least, 0},
		{part(least, 501, 1000), 0, least, least},
		{part(least, 3, 2), least, 2 * least, 2 * least},
		{part(least, 5, 2), 2 * least, 3 * least, 2 * least},
		{powerOfTwo(-70000), 0, least, 0},
		{new(big.Rat).Add(of(math.Float64frombits(lastLowBits)), part(least, 1, 2)), math.Float64frombits(lastLowBits), math.Float64frombits(firstFullBit), math.Float64frombits(firstFullBit)},
		{new(big.Rat).Add(of(math.Float64frombits(firstFullBit)), part(least, 1, 2)), math.Float64frombits(firstFullBit), math.Float64frombits(firstFullBit + 1), math.Float64frombits(firstFullBit)},
		{above(-1, 2), math.Nextafter(most, 0), most, math.Nextafter(most, 0)},
		{above(1, 1000), most, endless, most},
		{above(1, 2), most, endless, most},
		{above(1, 1), most, endless, most},
		{powerOfTwo(1025), most, endless, most},
		{powerOfTwo(1026), most, endless, most},
		{powerOfTwo(70000), most, endless, most},
	} {
		a := fraction(c.v)
		if low, high := Between(a); low != c.low || high != c.high || Near(a) != c.near {
			t.Errorf("%d: %g %g, near %g", i, low, high, Near(a))
		}
		checkSides(t, a)
		a = fraction(new(big.Rat).Neg(c.v))
		if low, high := Between(a); low != -c.high || high != -c.low || Near(a) != -c.near {
			t.Errorf("%d, below 0: %g %g, near %g", i, low, high, Near(a))
		}
		checkSides(t, a)
	}
}

func TestBetweenOfNoughts(t *testing.T) {
	for _, a := range noughts() {
		low, high := Between(a)
		for _, f := range []float64{low, high, Near(a)} {
			if math.Float64bits(f) != 0 {
				t.Errorf("of 0 as %v: %x", a, math.Float64bits(f))
			}
		}
	}
}

func TestNoZeroHasASign(t *testing.T) {
	for _, n := range []int{1, 2, 31, 32, 33, 1000, 70000} {
		for _, k := range []int64{-1, -3} {
			a := fraction(new(big.Rat).Mul(powerOfTwo(-1074-n-1), big.NewRat(k, 1)))
			low, high := Between(a)
			if math.Float64bits(high) != 0 || low != -math.SmallestNonzeroFloat64 || Near(a) == 0 && math.Signbit(Near(a)) {
				t.Errorf("of %d by 2^%d: %g %g %g", k, 1074+n+1, low, high, Near(a))
			}
		}
	}
}

// given are fractions as they may be handed in: of both signs, not lowest, with a Den of 0, a Num of 0 with Minus, with noughts at their ends, and of many words.
func given() []rat.Rat {
	nums := []nat.Nat{nil, {0, 0}, {1}, {1, 0}, {6}, {35, 0, 0}, {1<<32 - 1}, {0, 1}, {1<<32 - 1, 1<<21 - 1}, {1, 1 << 21}, {6, 0, 6}, {0, 1 << 31, 0}}
	dens := []nat.Nat{nil, {}, {0, 0}, {1}, {1, 0, 0}, {2}, {4, 0}, {6}, {35}, {1<<32 - 1}, {0, 1}, {0, 1 << 31}, {3, 0, 3, 0}}
	state := uint64(5)
	row := func(n int) nat.Nat {
		a := make(nat.Nat, n)
		for i := range n {
			state = state*6364136223846793005 + 1442695040888963407
			a[i] = uint32(state >> 32)
		}
		return a
	}
	for _, n := range []int{1, 2, 3, 30, 33, 34, 35, 36, 67} {
		nums, dens = append(nums, row(n)), append(dens, row(n))
		nums, dens = append(nums, slices.Concat(row(n), nat.Nat{0, 0})), append(dens, slices.Concat(make(nat.Nat, n), nat.Nat{1, 0}))
	}
	var list []rat.Rat
	for _, num := range nums {
		for _, den := range dens {
			for _, minus := range []bool{false, true} {
				list = append(list, rat.Rat{Num: whole.Int{Minus: minus, Size: num}, Den: den})
			}
		}
	}
	return list
}

func TestBetweenOfWhatIsGiven(t *testing.T) {
	for _, a := range given() {
		checkSides(t, a)
		checkSides(t, wider(a))
	}
}

func TestBetweenOfSmallFractions(t *testing.T) {
	for n := -40; n <= 40; n++ {
		for d := range 40 {
			checkSides(t, rat.Rat{Num: whole.Of(n), Den: nat.Of(uint64(d))})
		}
	}
}

func TestBetweenOfLongFractions(t *testing.T) {
	third := big.NewRat(1, 3)
	for _, bits := range []uint{3000, 65535, 65536, 65537, 140000} {
		long := new(big.Int).Lsh(big.NewInt(1), bits)
		odd := new(big.Int).Add(long, big.NewInt(1))
		for _, v := range []*big.Rat{
			new(big.Rat).SetFrac(odd, long), new(big.Rat).SetFrac(long, odd), new(big.Rat).SetFrac(big.NewInt(1), odd), new(big.Rat).SetInt(odd),
			new(big.Rat).Add(third, new(big.Rat).SetFrac(big.NewInt(1), long)),
			// As near as can be to what is as near to two.
			new(big.Rat).Add(big.NewRat(1<<53+1, 1), new(big.Rat).SetFrac(big.NewInt(1), long)),
			new(big.Rat).Sub(big.NewRat(1<<53+3, 1), new(big.Rat).SetFrac(big.NewInt(1), long)),
		} {
			checkSides(t, fraction(v))
			checkSides(t, fraction(new(big.Rat).Neg(v)))
		}
		// Not lowest: 5 by 3, which shares long with both.
		a := rat.Rat{Num: whole.Int{Size: words(new(big.Int).Mul(odd, big.NewInt(5)))}, Den: words(new(big.Int).Mul(odd, big.NewInt(3)))}
		if low, high := Between(a); low != math.Nextafter(high, 0) || Near(a) != 5.0/3 {
			t.Errorf("5 by 3, of %d bits: %g %g, near %g", bits, low, high, Near(a))
		}
		checkSides(t, a)
	}
}

func TestNearUndoesExact(t *testing.T) {
	for _, f := range numbers() {
		a, _ := Exact(f)
		if got := Near(a); got != f {
			t.Fatalf("Near(Exact(%g)): %g", f, got)
		}
	}
}
