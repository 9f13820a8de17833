package rat

import (
	"math/big"
	"strings"
	"testing"

	"offcut/api"
	"offcut/nat"
	"offcut/whole"
)

// P3.3

func TestText(t *testing.T) {
	for _, a := range allFractions() {
		if got, want := Text(a), value(a).RatString(); got != want {
			t.Fatalf("Text(%v): %s, want %s", a, got, want)
		}
	}
	fraction := func(minus bool, num, den nat.Nat) Rat { return Rat{whole.Int{Minus: minus, Size: num}, den} }
	for _, c := range []struct {
		a    Rat
		want string
	}{
		{Rat{}, "0"}, {fraction(true, nil, nil), "0"}, {fraction(true, nat.Nat{0}, nat.Nat{7}), "0"}, {fraction(true, nat.Nat{7}, nil), "-7"},
		{fraction(false, nat.Nat{6}, nat.Nat{4}), "3/2"}, {fraction(true, nat.Nat{6, 0}, nat.Nat{4, 0}), "-3/2"}, {fraction(true, nat.Nat{8}, nat.Nat{4}), "-2"},
		{fraction(false, nat.Nat{1}, nat.Nat{0, 1}), "1/4294967296"}, {fraction(false, nat.Nat{0, 1}, nat.Nat{1}), "4294967296"},
	} {
		if got := Text(c.a); got != c.want {
			t.Errorf("Text(%v): %s, want %s", c.a, got, c.want)
		}
	}
	if a, e := Of(6, -4); e != api.OK || Text(a) != "-3/2" {
		t.Errorf("Text of 6 by -4: %s, error %d", Text(a), e)
	}
}

func TestParse(t *testing.T) {
	most := strings.Repeat("9", api.MaxDigit)
	for _, s := range []string{
		"0", "-0", "007", "-12", "4294967296", "18446744073709551616", most, "-" + most,
		"0/1", "0/5", "-0/5", "1/1", "6/4", "-6/4", "3/2", "8/4", "007/0021", "-1/4294967296", "4294967296/1", "123456789012345678901234567890/9876543210987654321",
		most + "/" + most, "-" + most + "/3", "1/" + most, "5/" + strings.Repeat("0", api.MaxDigit-1) + "5",
	} {
		got, e := Parse(s)
		if e != api.OK {
			t.Fatalf("Parse(%.40q): error %d", s, e)
		}
		// SetString would take noughts ahead of digits for another base.
		num, den, is := strings.Cut(s, "/")
		top, _ := new(big.Int).SetString(num, 10)
		bottom := big.NewInt(1)
		if is {
			bottom.SetString(den, 10)
		}
		same(t, "Parse", got, new(big.Rat).SetFrac(top, bottom))
	}
}

func TestParseOfWhatTextTells(t *testing.T) {
	for _, a := range allFractions() {
		got, e := Parse(Text(a))
		if e != api.OK {
			t.Fatalf("Parse(%s): error %d", Text(a), e)
		}
		same(t, "Parse", got, value(a))
	}
}

func TestParseOfWrongTexts(t *testing.T) {
	long := strings.Repeat("9", api.MaxDigit+1)
	noughts := strings.Repeat("0", api.MaxDigit)
	for _, c := range []struct {
		s    string
		want api.Errno
	}{
		{"", api.ErrForm}, {"/", api.ErrForm}, {"//", api.ErrForm}, {"/1", api.ErrForm}, {"1/", api.ErrForm}, {"-/1", api.ErrForm}, {"-", api.ErrForm}, {"-1/", api.ErrForm},
		{"1//2", api.ErrForm}, {"1/2/3", api.ErrForm}, {"1/2/", api.ErrForm}, {"/1/2", api.ErrForm}, {"1/0/1", api.ErrForm},
		{"1/-2", api.ErrForm}, {"1/+2", api.ErrForm}, {"+1/2", api.ErrForm}, {"--1/2", api.ErrForm}, {"-1/-2", api.ErrForm}, {"1-/2", api.ErrForm}, {"1/2-", api.ErrForm}, {"1/-0", api.ErrForm},
		{"1 /2", api.ErrForm}, {"1/ 2", api.ErrForm}, {" 1/2", api.ErrForm}, {"1/2 ", api.ErrForm}, {"1/2\n", api.ErrForm}, {"1.5", api.ErrForm}, {"1/2.0", api.ErrForm}, {"x/2", api.ErrForm}, {"1/x", api.ErrForm},
		{"1e2/3", api.ErrForm}, {"0x1/2", api.ErrForm}, {"1∕2", api.ErrForm}, {"1/٣", api.ErrForm}, {"\xff/1", api.ErrForm}, {"1/\x00", api.ErrForm}, {"1\\2", api.ErrForm},
		{long, api.ErrMany}, {"-" + long, api.ErrMany}, {long + "/1", api.ErrMany}, {"1/" + long, api.ErrMany}, {"1/0" + noughts, api.ErrMany}, {long + "/" + long, api.ErrMany},
		{"1/0", api.ErrZero}, {"0/0", api.ErrZero}, {"-0/0", api.ErrZero}, {"-3/000", api.ErrZero}, {"1/" + noughts, api.ErrZero},
		{long + "/", api.ErrMany}, {long + "/x", api.ErrMany}, {long + "/0", api.ErrMany}, {"/" + long, api.ErrForm}, {"x/" + long, api.ErrForm}, {"x/0", api.ErrForm}, {"/0", api.ErrForm},
	} {
		got, e := Parse(c.s)
		if e != c.want || got.Num.Minus || len(got.Num.Size) != 0 || nat.Bits(got.Den) > 1 {
			t.Errorf("Parse(%.20q): %v %d, want error %d", c.s, got, e, c.want)
		}
	}
}

func TestParseOfEveryByte(t *testing.T) {
	for c := range 256 {
		for _, ends := range [][2]string{{"1", "2"}, {"1/", "2"}, {"1/2", ""}, {"", "1/2"}} {
			s := ends[0] + string([]byte{byte(c)}) + ends[1]
			want := api.ErrForm
			switch {
			case c >= '0' && c <= '9', c == '-' && ends[0] == "", c == '/' && ends[1] == "2" && ends[0] == "1":
				want = api.OK
			}
			if _, e := Parse(s); e != want {
				t.Fatalf("Parse(%q): error %d, want %d", s, e, want)
			}
		}
	}
}
