package whole

import (
	"strings"

	"offcut/api"
	"offcut/nat"
)

const minusSign = "-"

// Text is decimal digits.
func Text(a Int) string {
	digits := nat.Text(a.Size)
	if Sign(a) < 0 {
		return minusSign + digits
	}
	return digits
}

// Parse reads them.
func Parse(s string) (Int, api.Errno) {
	digits, minus := strings.CutPrefix(s, minusSign)
	size, e := nat.Parse(digits)
	if e != api.OK {
		return Int{}, e
	}
	return signed(minus, size), api.OK
}
