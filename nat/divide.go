package nat

import (
	"math/bits"

	"offcut/api"
)

// DivMod is how often one goes into another one, and what is left.
func DivMod(a, b Nat) (Nat, Nat, api.Errno) {
	a, b = trim(a), trim(b)
	if len(b) == 0 {
		return nil, nil, api.ErrZero
	}
	if len(a) < len(b) {
		return nil, told(a), api.OK
	}
	if len(b) == 1 {
		quotient := told(a)
		left := divideWord(quotient, b[0])
		return trim(quotient), Of(uint64(left)), api.OK
	}
	quotient, left := divideRow(a, b)
	return quotient, left, api.OK
}

// divideWord divides row in its place and tells what is left; by is not 0.
func divideWord(row Nat, by uint32) uint32 {
	var left uint64
	for i := range len(row) {
		k := len(row) - 1 - i
		left = left<<wordBits | uint64(row[k])
		row[k] = uint32(left / uint64(by))
		left %= uint64(by)
	}
	return uint32(left)
}

// divideRow divides as by hand, a word of the quotient at a time. Both are trimmed; b has two words or more, a no fewer.
func divideRow(a, b Nat) (Nat, Nat) {
	// With the highest bit of the divisor set, a guess from its two highest words is too great by 1 at most.
	up := bits.LeadingZeros32(b[len(b)-1])
	left := shiftUp(a, up)
	by := trim(shiftUp(b, up))
	quotient := make(Nat, len(a)-len(b)+1)
	for i := range len(quotient) {
		k := len(quotient) - 1 - i
		quotient[k] = takeOff(left[k:k+len(by)+1], by)
	}
	shiftDown(left, up)
	return trim(quotient), trim(left)
}

// takeOff takes by off part, as often as it goes into it, and tells how often. Part has one word more than by.
func takeOff(part, by Nat) uint32 {
	times := guess(part, by)
	if takeTimes(part, by, times) {
		times--
		part[len(by)] += addTimes(part[:len(by)], by, 1)
	}
	return times
}

// guess is how often by goes into part, or one more.
func guess(part, by Nat) uint32 {
	n := len(by)
	first, second, third := uint64(by[n-1]), uint64(by[n-2]), uint64(part[n-2])
	top := uint64(part[n])<<wordBits | uint64(part[n-1])
	times, left := top/first, top%first
	for left <= wordMask && (times > wordMask || times*second > left<<wordBits|third) {
		times--
		left += first
	}
	return uint32(times)
}

// takeTimes takes by, so many times, off part, and tells whether that went below 0; if so part is what wraps round.
func takeTimes(part, by Nat, times uint32) bool {
	var carry, borrow uint64
	for i := range len(by) {
		carry += uint64(by[i]) * uint64(times)
		word := uint64(part[i]) - carry&wordMask - borrow
		part[i] = uint32(word)
		borrow = word >> 63
		carry >>= wordBits
	}
	word := uint64(part[len(by)]) - carry - borrow
	part[len(by)] = uint32(word)
	return word>>63 != 0
}

// shiftDown divides row by 2 to the power of n, in its place; n is below 32.
func shiftDown(row Nat, n int) {
	var above uint64
	for i := range len(row) {
		k := len(row) - 1 - i
		above = above<<wordBits | uint64(row[k])
		row[k] = uint32(above >> n)
	}
}

// Gcd is the greatest number that divides both.
func Gcd(a, b Nat) Nat {
	a, b = trim(a), trim(b)
	for len(b) > 0 {
		if len(a) <= 2 && len(b) <= 2 {
			return gcdSmall(a, b)
		}
		_, left, _ := DivMod(a, b)
		a, b = b, left
	}
	return told(a)
}

// gcdSmall spares the rows of each step: most numbers on the way are short.
func gcdSmall(a, b Nat) Nat {
	x, _ := Small(a)
	y, _ := Small(b)
	for y > 0 {
		x, y = y, x%y
	}
	return Of(x)
}
