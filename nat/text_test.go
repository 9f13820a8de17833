package nat

import (
	"math/big"
	"strings"
	"testing"

	"offcut/api"
)

// P1.3

func TestText(t *testing.T) {
	eachRow(func(a Nat) {
		if got, want := Text(a), value(a).String(); got != want {
			t.Fatalf("Text(%v): %s, want %s", a, got, want)
		}
	})
	for want, a := range map[string]Nat{
		"0": nil, "5": {5, 0, 0}, "4294967296": {0, 1}, "1000000000": {1000000000}, "18446744073709551616": {0, 0, 1},
	} {
		if got := Text(a); got != want {
			t.Errorf("Text(%v): %s, want %s", a, got, want)
		}
	}
	if got := Text(Nat{0, 0}); got != "0" {
		t.Errorf("Text of a 0 with noughts: %s", got)
	}
	long := Shift(Of(1), 1<<16)
	if Text(long) != value(long).String() {
		t.Error("Text of 2 to the power of 65536")
	}
}

func TestParse(t *testing.T) {
	for _, s := range []string{
		"0", "00", "1", "007", "9", "10", "999999999", "1000000000", "000000000000000001", "4294967295", "4294967296",
		"18446744073709551615", "18446744073709551616", "100000000000000000000000000000", "000000000",
		strings.Repeat("9", api.MaxDigit), strings.Repeat("0", api.MaxDigit), "1" + strings.Repeat("0", api.MaxDigit-1),
	} {
		got, e := Parse(s)
		if e != api.OK {
			t.Fatalf("Parse(%q): error %d", s, e)
		}
		want, _ := new(big.Int).SetString(s, 10)
		same(t, "Parse", got, want)
	}
	for n := 1; n <= api.MaxDigit; n++ {
		s := strings.Repeat("8090", api.MaxDigit)[:n]
		got, e := Parse(s)
		if e != api.OK || Text(got) != s {
			t.Fatalf("Parse(%q): %v, error %d", s, got, e)
		}
	}
}

func TestParseOfEveryByte(t *testing.T) {
	for c := range 256 {
		for _, ends := range [][2]string{{"", ""}, {"1", ""}, {"", "1"}, {"12345678901", "1"}} {
			s := ends[0] + string([]byte{byte(c)}) + ends[1]
			want := api.ErrForm
			if '0' <= c && c <= '9' {
				want = api.OK
			}
			got, e := Parse(s)
			if e != want || e != api.OK && len(got) != 0 {
				t.Errorf("Parse(%q): %v, error %d", s, got, e)
			}
		}
	}
}

func TestParseErrors(t *testing.T) {
	long := strings.Repeat("1", api.MaxDigit)
	for _, c := range []struct {
		s    string
		want api.Errno
	}{
		{"", api.ErrForm}, {" ", api.ErrForm}, {"-1", api.ErrForm}, {"+1", api.ErrForm}, {"1 ", api.ErrForm}, {"1_0", api.ErrForm},
		{"0x1", api.ErrForm}, {"1e3", api.ErrForm}, {"1.0", api.ErrForm}, {"\x00", api.ErrForm}, {"\xff\xfe", api.ErrForm},
		{"\u0661", api.ErrForm}, {"\uff11", api.ErrForm}, {"1\n", api.ErrForm},
		{long + "1", api.ErrMany}, {strings.Repeat("0", api.MaxDigit+1), api.ErrMany}, {strings.Repeat("7", 1<<20), api.ErrMany},
		// The sign that is no digit is named first, wherever it stands.
		{long + "x", api.ErrForm}, {long + "1x", api.ErrForm}, {"x" + long, api.ErrForm}, {strings.Repeat("7", 1<<20) + "-", api.ErrForm},
	} {
		if got, e := Parse(c.s); e != c.want || len(got) != 0 {
			t.Errorf("Parse(%.20q, %d bytes): %v, error %d, want %d", c.s, len(c.s), got, e, c.want)
		}
	}
}

func TestTextAndParseGoRound(t *testing.T) {
	eachRow(func(a Nat) {
		s := Text(a)
		got, e := Parse(s)
		if len(s) > api.MaxDigit {
			if e != api.ErrMany {
				t.Fatalf("Parse(%s): error %d", s, e)
			}
			return
		}
		if e != api.OK {
			t.Fatalf("Parse(%s): error %d", s, e)
		}
		same(t, "Parse of Text", got, value(a))
	})
}
