package nat

import (
	"slices"

	"offcut/api"
)

// As many decimal digits as always go into one word are read and told at a time.
const (
	partDigits = 9
	partSize   = 1000000000
)

// Text is decimal digits.
func Text(a Nat) string {
	left := told(a)
	if len(left) == 0 {
		return "0"
	}
	var digits []byte
	for len(left) > 0 {
		part := divideWord(left, partSize)
		left = trim(left)
		for range partDigits {
			digits = append(digits, byte('0'+part%10))
			part /= 10
		}
	}
	for digits[len(digits)-1] == '0' {
		digits = digits[:len(digits)-1]
	}
	slices.Reverse(digits)
	return string(digits)
}

// Parse reads decimal digits.
func Parse(s string) (Nat, api.Errno) {
	// A byte below the sign 0 wraps round, and so is above 9, too.
	digit := func(i int) (uint32, bool) {
		d := s[i] - '0'
		return uint32(d), d <= 9
	}
	if len(s) == 0 || !allDigits(len(s), digit) {
		return nil, api.ErrForm
	}
	if len(s) > api.MaxDigit {
		return nil, api.ErrMany
	}
	return read(len(s), digit), api.OK
}

func allDigits(n int, digit func(int) (uint32, bool)) bool {
	for i := range n {
		if _, is := digit(i); !is {
			return false
		}
	}
	return true
}

// read is the number of n digits, the highest first.
func read(n int, digit func(int) (uint32, bool)) Nat {
	var row Nat
	var part, size uint32 = 0, 1
	for i := range n {
		d, _ := digit(i)
		part, size = part*10+d, size*10
		if size == partSize || i == n-1 {
			row = timesAndMore(row, size, part)
			part, size = 0, 1
		}
	}
	return trim(row)
}

// timesAndMore is row times a word, and one more word added, in row's own memory.
func timesAndMore(row Nat, times, more uint32) Nat {
	carry := uint64(more)
	for i := range len(row) {
		carry += uint64(row[i]) * uint64(times)
		row[i] = uint32(carry)
		carry >>= wordBits
	}
	if carry > 0 {
		row = append(row, uint32(carry))
	}
	return row
}
