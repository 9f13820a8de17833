package rat

import (
	"strings"

	"offcut/api"
	"offcut/nat"
	"offcut/whole"
)

const bySign = "/"

// Text is a fraction's digits.
func Text(a Rat) string {
	a = Make(a.Num, a.Den)
	if isOne(a.Den) {
		return whole.Text(a.Num)
	}
	return whole.Text(a.Num) + bySign + nat.Text(a.Den)
}

// Parse reads them.
func Parse(s string) (Rat, api.Errno) {
	ahead, behind, is := strings.Cut(s, bySign)
	num, e := whole.Parse(ahead)
	if e != api.OK {
		return Rat{}, e
	}
	if !is {
		return Rat{num, nat.Of(1)}, api.OK
	}
	den, e := nat.Parse(behind)
	if e != api.OK {
		return Rat{}, e
	}
	if nat.Bits(den) == 0 {
		return Rat{}, api.ErrZero
	}
	return lowest(num, den), api.OK
}
