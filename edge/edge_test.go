package edge

import (
	"math"
	"math/big"
	"slices"
	"testing"

	"offcut/api"
	"offcut/nat"
	"offcut/rat"
	"offcut/whole"
)

// The signatures are the document's; these lines do not build with others.
var (
	_ func(float64) (rat.Rat, api.Errno)        = Exact
	_ func(rat.Rat) float64                     = Near
	_ func(rat.Rat) (float64, float64)          = Between
	_ func(float64, rat.Rat) bool               = Same
	_ func(float64) int                         = Kind
	_ func(func() rat.Rat) (rat.Rat, api.Errno) = Guard
)

// The floats at the edges of their bits.
const (
	leastBits    = 1                     // the least one above 0
	lastLowBits  = 0x000f_ffff_ffff_ffff // the greatest one that has not its first bit
	firstFullBit = 0x0010_0000_0000_0000 // the least one that has it
	greatestBits = 0x7fef_ffff_ffff_ffff // the greatest of all
)

func minusZero() float64 {
	return math.Copysign(0, -1)
}

// size is what a row of words stands for, by arithmetic that is not the program's own.
func size(a nat.Nat) *big.Int {
	v := new(big.Int)
	for _, word := range slices.Backward(a) {
		v.Lsh(v, 32)
		v.Or(v, new(big.Int).SetUint64(uint64(word)))
	}
	return v
}

// value is what a fraction stands for.
func value(a rat.Rat) *big.Rat {
	num, den := size(a.Num.Size), size(a.Den)
	if a.Num.Minus {
		num.Neg(num)
	}
	if den.Sign() == 0 {
		den.SetInt64(1)
	}
	return new(big.Rat).SetFrac(num, den)
}

// words is a row of words of a number that is not below 0.
func words(v *big.Int) nat.Nat {
	v = new(big.Int).Set(v)
	mask := big.NewInt(1<<32 - 1)
	var row nat.Nat
	for v.Sign() > 0 {
		row = append(row, uint32(new(big.Int).And(v, mask).Uint64()))
		v.Rsh(v, 32)
	}
	return row
}

// fraction is the program's own one of what a big.Rat stands for.
func fraction(v *big.Rat) rat.Rat {
	return rat.Rat{Num: whole.Int{Minus: v.Sign() < 0, Size: words(new(big.Int).Abs(v.Num()))}, Den: words(v.Denom())}
}

// of is what a float64 stands for, by arithmetic that is not the program's own.
func of(f float64) *big.Rat {
	v := new(big.Rat).SetFloat64(f)
	if v == nil {
		panic("no fraction")
	}
	return v
}

// same fails the test unless got is want, lowest; a big.Rat always is.
func same(t *testing.T, what string, got rat.Rat, want *big.Rat) {
	t.Helper()
	w := fraction(want)
	if got.Num.Minus != w.Num.Minus || !slices.Equal(got.Num.Size, w.Num.Size) || !slices.Equal(got.Den, w.Den) {
		t.Fatalf("%s: got %v, want %v", what, got, want)
	}
}

// isNothing tells whether a is 0, as it may stand beside an error.
func isNothing(a rat.Rat) bool {
	return !a.Num.Minus && len(a.Num.Size) == 0 && (len(a.Den) == 0 || slices.Equal(a.Den, nat.Nat{1}))
}

// numbers are float64s that stand for fractions: the edges and what lies beside them, ordinary ones, and some of all places; of both signs.
func numbers() []float64 {
	list := []float64{1, 2, 3, 10, 0.1, 0.5, 1.25, 1.0 / 3, 1e20, 1e-20, 1e300, 1e-300, 123456.789, 1 << 52, 1<<53 - 1, 1 << 53, 1<<53 + 2, 1 << 63, math.Pi, 1<<32 - 1, 1 << 32, 4.9e-322}
	for _, edge := range []uint64{leastBits, lastLowBits, firstFullBit, greatestBits, math.Float64bits(1), math.Float64bits(1 << 53)} {
		for step := range uint64(7) {
			bits := edge + step - 3
			if bits <= greatestBits {
				list = append(list, math.Float64frombits(bits))
			}
		}
	}
	state := uint64(4)
	next := func() uint64 {
		state = state*6364136223846793005 + 1442695040888963407
		return state >> 12
	}
	for place := range uint64(0x7ff) {
		list = append(list, math.Float64frombits(place<<52|next()))
		if place%50 == 0 {
			list = append(list, math.Float64frombits(place<<52), math.Float64frombits(place<<52|lastLowBits), math.Float64frombits(place<<52|1))
		}
	}
	for i := range 53 {
		list = append(list, math.Float64frombits(1<<i), math.Float64frombits(1<<i-1), math.Ldexp(1, i), math.Ldexp(1, -i))
	}
	for _, f := range slices.Clone(list) {
		list = append(list, -f)
	}
	return append(list, 0, minusZero())
}

// notNumbers are the endless ones, and some that are no number.
func notNumbers() []float64 {
	return []float64{
		math.Inf(1), math.Inf(-1), math.NaN(), -math.NaN(),
		math.Float64frombits(0x7ff0_0000_0000_0001), math.Float64frombits(0xfff0_0000_0000_0001), math.Float64frombits(0x7fff_ffff_ffff_ffff), math.Float64frombits(0xffff_ffff_ffff_ffff), math.Float64frombits(0x7ff8_0000_0000_0000),
	}
}

// P4.1

func TestExact(t *testing.T) {
	for _, f := range numbers() {
		got, e := Exact(f)
		if e != api.OK {
			t.Fatalf("Exact(%g): error %d", f, e)
		}
		same(t, "Exact", got, of(f))
		if !rat.Right(got) {
			t.Fatalf("Exact(%g): not lowest: %v", f, got)
		}
	}
}

func TestExactOfSome(t *testing.T) {
	for _, c := range []struct {
		f    float64
		want string
	}{
		{0, "0"}, {minusZero(), "0"}, {0.1, "3602879701896397/36028797018963968"}, {-0.1, "-3602879701896397/36028797018963968"},
		{0.5, "1/2"}, {-0.75, "-3/4"}, {1.25, "5/4"}, {-3, "-3"}, {96, "96"}, {1e20, "100000000000000000000"}, {1 << 53, "9007199254740992"}, {-(1 << 63), "-9223372036854775808"},
	} {
		if got, e := Exact(c.f); e != api.OK || rat.Text(got) != c.want {
			t.Errorf("Exact(%g): %s, error %d, want %s", c.f, rat.Text(got), e, c.want)
		}
	}
}

func TestExactOfEdges(t *testing.T) {
	power := func(n uint) *big.Int { return new(big.Int).Lsh(big.NewInt(1), n) }
	less := func(a, b *big.Int) *big.Int { return new(big.Int).Sub(a, b) }
	for _, c := range []struct {
		bits     uint64
		num, den *big.Int
	}{
		{leastBits, power(0), power(1074)},
		{lastLowBits, less(power(52), power(0)), power(1074)},
		{firstFullBit, power(0), power(1022)},
		{greatestBits, less(power(1024), power(971)), power(0)},
	} {
		for _, minus := range []bool{false, true} {
			want := new(big.Rat).SetFrac(c.num, c.den)
			f := math.Float64frombits(c.bits)
			if minus {
				want.Neg(want)
				f = -f
			}
			got, e := Exact(f)
			if e != api.OK {
				t.Fatalf("Exact(%g): error %d", f, e)
			}
			same(t, "Exact", got, want)
		}
	}
}

func TestExactOfNone(t *testing.T) {
	for _, f := range notNumbers() {
		if got, e := Exact(f); e != api.ErrEdge || !isNothing(got) {
			t.Errorf("Exact(%g): %v, error %d", f, got, e)
		}
	}
}

func TestKind(t *testing.T) {
	if Kind(0) != 0 || Kind(minusZero()) != 1 || Kind(math.Inf(1)) != 3 || Kind(math.Inf(-1)) != 4 {
		t.Errorf("Kind: %d %d %d %d", Kind(0), Kind(minusZero()), Kind(math.Inf(1)), Kind(math.Inf(-1)))
	}
	for _, f := range numbers() {
		if f != 0 && Kind(f) != 2 {
			t.Errorf("Kind(%g): %d", f, Kind(f))
		}
	}
	for _, f := range notNumbers()[2:] {
		if Kind(f) != 5 {
			t.Errorf("Kind of %x: %d", math.Float64bits(f), Kind(f))
		}
	}
}

func TestSame(t *testing.T) {
	for _, f := range numbers() {
		v := of(f)
		a := fraction(v)
		if !Same(f, a) || !Same(f, wider(a)) {
			t.Fatalf("Same(%g, %v): false", f, v)
		}
		if f != 0 && (Same(-f, a) || Same(f, rat.Rat{}) || Same(0, a) || Same(minusZero(), a)) {
			t.Fatalf("Same of what is not %g: true", f)
		}
		for _, by := range []*big.Rat{big.NewRat(1, 1<<62), big.NewRat(-1, 1<<62), powerOfTwo(-3000)} {
			if Same(f, fraction(new(big.Rat).Add(v, by))) {
				t.Fatalf("Same(%g, what lies a little beside it): true", f)
			}
		}
	}
}

// powerOfTwo is 2 to a power.
func powerOfTwo(n int) *big.Rat {
	power := new(big.Int).Lsh(big.NewInt(1), uint(max(n, -n)))
	if n < 0 {
		return new(big.Rat).SetFrac(big.NewInt(1), power)
	}
	return new(big.Rat).SetInt(power)
}

// wider is the same fraction, not lowest and with noughts at the ends of its numbers.
func wider(a rat.Rat) rat.Rat {
	by := nat.Nat{6, 0, 1}
	den := a.Den
	if nat.Bits(den) == 0 {
		den = nat.Of(1)
	}
	return rat.Rat{Num: whole.Int{Minus: a.Num.Minus, Size: append(nat.Mul(a.Num.Size, by), 0)}, Den: append(nat.Mul(den, by), 0, 0)}
}

func TestSameOfNoughts(t *testing.T) {
	for _, f := range []float64{0, minusZero()} {
		for _, a := range noughts() {
			if !Same(f, a) {
				t.Errorf("Same(%g, %v): false", f, a)
			}
		}
		if Same(f, fraction(of(math.SmallestNonzeroFloat64))) {
			t.Errorf("Same(%g, the least one): true", f)
		}
	}
}

func TestSameOfNone(t *testing.T) {
	for _, f := range notNumbers() {
		for _, a := range append(noughts(), rat.Int(1), rat.Int(-1), fraction(of(math.MaxFloat64)), fraction(of(-math.MaxFloat64)), fraction(powerOfTwo(1024))) {
			if Same(f, a) {
				t.Errorf("Same(%g, %v): true", f, a)
			}
		}
	}
}

// noughts are 0, as it may be handed in.
func noughts() []rat.Rat {
	return []rat.Rat{
		{}, rat.Int(0), {Den: nat.Nat{}}, {Den: nat.Nat{0, 0}}, {Den: nat.Nat{7}}, {Num: whole.Int{Minus: true}}, {Num: whole.Int{Minus: true, Size: nat.Nat{}}, Den: nat.Nat{1}},
		{Num: whole.Int{Minus: true, Size: nat.Nat{0, 0}}, Den: nat.Nat{0, 5, 0}}, {Num: whole.Int{Size: nat.Nat{0}}, Den: nat.Nat{0}},
	}
}
