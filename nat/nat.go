// Package nat is layer 1: numbers that are not below 0: see shared/doc/01-nat.md.
package nat

import "math/bits"

// Nat is a number, the lowest 32 bits first.
type Nat []uint32

const (
	wordBits = 32
	wordMask = 1<<wordBits - 1
	maxShift = 1 << 16
)

// trim is a without the noughts at its end. It is a piece of a, so what was handed in leaves the package by told alone.
// 0 is always nil, so that one number is told in one way.
func trim(a Nat) Nat {
	n := len(a)
	for n > 0 && a[n-1] == 0 {
		n--
	}
	if n == 0 {
		return nil
	}
	return a[:n]
}

// told is a as it is told, in memory of its own: a piece of what was handed in would share the room behind its end.
func told(a Nat) Nat {
	a = trim(a)
	if len(a) == 0 {
		return nil
	}
	row := make(Nat, len(a))
	copy(row, a)
	return row
}

// Of is a number.
func Of(n uint64) Nat {
	return trim(Nat{uint32(n), uint32(n >> wordBits)})
}

// Right tells whether there is no nought at the end.
func Right(a Nat) bool {
	return len(a) == 0 || a[len(a)-1] != 0
}

// Small is a number of 64 bits.
func Small(a Nat) (uint64, bool) {
	a = trim(a)
	if len(a) > 2 {
		return 0, false
	}
	var n uint64
	for i := range len(a) {
		n |= uint64(a[i]) << (i * wordBits)
	}
	return n, true
}

// Compare tells which is the greater one.
func Compare(a, b Nat) int {
	a, b = trim(a), trim(b)
	if len(a) != len(b) {
		return side(len(a) < len(b))
	}
	for i := range len(a) {
		k := len(a) - 1 - i
		if a[k] != b[k] {
			return side(a[k] < b[k])
		}
	}
	return 0
}

func side(below bool) int {
	if below {
		return -1
	}
	return 1
}

// Add is a sum.
func Add(a, b Nat) Nat {
	a, b = trim(a), trim(b)
	if len(a) < len(b) {
		a, b = b, a
	}
	sum := make(Nat, len(a)+1)
	var carry uint64
	for i := range len(a) {
		carry += uint64(a[i])
		if i < len(b) {
			carry += uint64(b[i])
		}
		sum[i] = uint32(carry)
		carry >>= wordBits
	}
	sum[len(a)] = uint32(carry)
	return trim(sum)
}

// Sub is a difference.
func Sub(a, b Nat) (Nat, bool) {
	if Compare(a, b) < 0 {
		return nil, false
	}
	left := told(a)
	b = trim(b)
	var borrow uint64
	for i := range len(left) {
		word := uint64(left[i]) - borrow
		if i < len(b) {
			word -= uint64(b[i])
		}
		left[i] = uint32(word)
		borrow = word >> 63
	}
	return trim(left), true
}

// Mul is a product.
func Mul(a, b Nat) Nat {
	a, b = trim(a), trim(b)
	if len(a) == 0 || len(b) == 0 {
		return nil
	}
	product := make(Nat, len(a)+len(b))
	for i := range len(a) {
		product[i+len(b)] = addTimes(product[i:i+len(b)], b, a[i])
	}
	return trim(product)
}

// addTimes adds b, so many times, to the words of row, as many as b has, and tells what is carried out of them.
func addTimes(row, b Nat, times uint32) uint32 {
	var carry uint64
	for i := range len(b) {
		// No sum of these three is above 64 bits, whatever the words are.
		carry += uint64(b[i])*uint64(times) + uint64(row[i])
		row[i] = uint32(carry)
		carry >>= wordBits
	}
	return uint32(carry)
}

// Bits is how many binary digits there are.
func Bits(a Nat) int {
	a = trim(a)
	if len(a) == 0 {
		return 0
	}
	return (len(a)-1)*wordBits + bits.Len32(a[len(a)-1])
}

// Shift is a number times a power of 2.
func Shift(a Nat, n int) Nat {
	if n < 0 || n > maxShift {
		return told(a)
	}
	return trim(shiftUp(trim(a), n))
}

// shiftUp is a times 2 to the power of n, in a row whose last word, which takes what is carried, may be 0.
func shiftUp(a Nat, n int) Nat {
	words, rest := n/wordBits, n%wordBits
	row := make(Nat, len(a)+words+1)
	var carry uint64
	for i := range len(a) {
		carry |= uint64(a[i]) << rest
		row[words+i] = uint32(carry)
		carry >>= wordBits
	}
	row[words+len(a)] = uint32(carry)
	return row
}
