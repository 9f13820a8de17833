package edge

import (
	"math"

	"offcut/api"
	"offcut/nat"
	"offcut/rat"
)

// Between is the ones on both sides.
func Between(a rat.Rat) (float64, float64) {
	down, up := around(a.Num.Size, a.Den)
	if rat.Sign(a) < 0 {
		return join(true, up), join(true, down)
	}
	return join(false, down), join(false, up)
}

// join is the float64 of a sign and of the bits behind it; a zero has no sign.
func join(minus bool, bits uint64) float64 {
	if minus && bits != 0 {
		bits |= signBit
	}
	return math.Float64frombits(bits)
}

// around is the bits of the float64 that is not above num by den, and of the one that is not below it.
func around(num, den nat.Nat) (uint64, uint64) {
	if nat.Bits(num) == 0 {
		return 0, 0
	}
	if nat.Bits(den) == 0 {
		den = nat.Of(1)
	}
	// num by den lies above 2 to the power of wide-1 and below that of wide+1.
	wide := nat.Bits(num) - nat.Bits(den)
	if wide > mostWide {
		return endless - 1, endless
	}
	power := max(wide-lowBits-1, leastPower)
	count, left := countOf(num, den, power)
	if count >= 2*firstBit {
		count, left = count/2, left || count%2 != 0
		power++
	}
	// The sum carries count's first bit, where it has one, into the place; so it does with the 1 that is added below, at last into the endless one.
	down := uint64(power-leastPower)<<lowBits + count
	switch {
	case down >= endless:
		return endless - 1, endless
	case left:
		return down, down + 1
	}
	return down, down
}

// countOf is how often 2 to a power goes into num by den, and whether something is left. The power is such that the answer has at most 54 bits.
func countOf(num, den nat.Nat, power int) (uint64, bool) {
	num, den = scale(num, den, -power)
	quotient, left, _ := nat.DivMod(num, den)
	count, _ := nat.Small(quotient)
	return count, nat.Bits(left) > 0
}

// Near is the nearer one.
func Near(a rat.Rat) float64 {
	low, high := Between(a)
	below, e := Exact(low)
	if e != api.OK {
		return high
	}
	above, e := Exact(high)
	if e != api.OK {
		return low
	}
	half, _ := rat.Of(1, 2)
	// A comparison with the middle spares the distances, which would have to be made lowest.
	switch rat.Compare(a, rat.Mul(half, rat.Add(below, above))) {
	case -1:
		return low
	case 1:
		return high
	}
	if math.Float64bits(low)%2 == 0 {
		return low
	}
	return high
}
