package whole

import (
	"math/big"
	"strings"
	"testing"

	"offcut/api"
	"offcut/nat"
)

// P2.2

func TestText(t *testing.T) {
	for _, a := range allNumbers() {
		if got, want := Text(a), value(a).String(); got != want {
			t.Fatalf("Text(%v): %s, want %s", a, got, want)
		}
	}
	for _, a := range []Int{{}, {true, nil}, {true, nat.Nat{}}, {true, nat.Nat{0, 0}}, {false, nat.Nat{0}}} {
		if got := Text(a); got != "0" {
			t.Errorf("Text(%v): %s", a, got)
		}
	}
	if got := Text(Int{true, nat.Nat{5, 0}}); got != "-5" {
		t.Errorf("Text of -5 with a nought at its end: %s", got)
	}
}

func TestParse(t *testing.T) {
	most := strings.Repeat("9", api.MaxDigit)
	for _, digits := range []string{
		"0", "000", "1", "7", "007", "10", "4294967295", "4294967296", "4611686018427387904", "18446744073709551616",
		"123456789012345678901234567890", most, strings.Repeat("0", api.MaxDigit), "1" + strings.Repeat("0", api.MaxDigit-1),
	} {
		for _, s := range []string{digits, "-" + digits} {
			got, e := Parse(s)
			if e != api.OK {
				t.Fatalf("Parse(%q): error %d", s, e)
			}
			want, _ := new(big.Int).SetString(s, 10)
			same(t, "Parse", got, want)
		}
	}
}

func TestParseOfWhatTextTells(t *testing.T) {
	for _, a := range longNumbers() {
		if nat.Bits(a.Size) > 1280 {
			continue
		}
		got, e := Parse(Text(a))
		if e != api.OK {
			t.Fatalf("Parse(%s): error %d", Text(a), e)
		}
		same(t, "Parse", got, value(a))
	}
}

func TestParseOfNoughtBelowNought(t *testing.T) {
	for _, s := range []string{"-0", "-00", "-" + strings.Repeat("0", api.MaxDigit)} {
		if got, e := Parse(s); e != api.OK || got.Minus || len(got.Size) != 0 {
			t.Errorf("Parse(%q): %v %d", s, got, e)
		}
	}
}

func TestParseOfWrongTexts(t *testing.T) {
	long := strings.Repeat("9", api.MaxDigit+1)
	for _, c := range []struct {
		s    string
		want api.Errno
	}{
		{"", api.ErrForm}, {"-", api.ErrForm}, {"--", api.ErrForm}, {"--1", api.ErrForm}, {"---1", api.ErrForm}, {"1-", api.ErrForm}, {"1-1", api.ErrForm},
		{"+1", api.ErrForm}, {"-+1", api.ErrForm}, {"+-1", api.ErrForm}, {"- 1", api.ErrForm}, {" -1", api.ErrForm}, {"-1 ", api.ErrForm}, {"-1\n", api.ErrForm},
		{"1.0", api.ErrForm}, {"-0x1", api.ErrForm}, {"1_0", api.ErrForm}, {"1e1", api.ErrForm}, {"−1", api.ErrForm}, {"-٣", api.ErrForm}, {"-\x00", api.ErrForm}, {"\xff1", api.ErrForm},
		{long, api.ErrMany}, {"-" + long, api.ErrMany}, {"-" + strings.Repeat("0", api.MaxDigit+1), api.ErrMany}, {strings.Repeat("1", 1<<16), api.ErrMany},
		{"--" + long, api.ErrForm}, {"-" + long + "-", api.ErrForm}, {"-" + long + "x", api.ErrForm},
	} {
		if got, e := Parse(c.s); e != c.want || got.Minus || len(got.Size) != 0 {
			t.Errorf("Parse(%.20q): %v %d, want error %d", c.s, got, e, c.want)
		}
	}
}

func TestParseOfEveryByte(t *testing.T) {
	for c := range 256 {
		for _, ends := range [][2]string{{"-", ""}, {"-1", ""}, {"1", "2"}, {"-1", "2"}} {
			s := ends[0] + string([]byte{byte(c)}) + ends[1]
			want := api.ErrForm
			if c >= '0' && c <= '9' {
				want = api.OK
			}
			if _, e := Parse(s); e != want {
				t.Fatalf("Parse(%q): error %d, want %d", s, e, want)
			}
		}
	}
}
