package lines

import (
	"fmt"
	"strings"
	"testing"

	"offcut/api"
	"offcut/rat"
)

// P7.1, Name and Number

func TestName(t *testing.T) {
	for _, s := range []string{
		"a", "z", "m", "ab", "zz", "x1", "x_9", "a_", "a__", "a0", "a9", "min", "block", "abcdefghijklmnop", "qrstuvwxyz", "a_0123456789_zaz",
		strings.Repeat("a", 16), "z" + strings.Repeat("9", 15), "z" + strings.Repeat("_", 15), strings.Repeat("y", 15),
	} {
		if !Name(s) {
			t.Errorf("Name(%q): false", s)
		}
	}
	for _, s := range []string{
		"", "0", "9", "_", "1a", "0a", "_a", "__", "A", "Z", "Aa", "aA", "aZ", "aBc", "a b", " a", "a ", "a\n", "\na", "a-b", "-a", "a:", "a#", "#a", "a+", "a/b", "1/2", "a.b", "a,b", "a'", "a\x00", "\x00a", "a\t",
		"é", "aé", "a\xff", "\xffa", "\xc3", "a\xa9", "а", "aа", "ａ", "a１", "a٣", "ß", "aß", "aª", "a\ufffd", "\u0131a",
		strings.Repeat("a", 17), strings.Repeat("a", 1<<20), "z" + strings.Repeat("9", 16), strings.Repeat("a", 15) + "é", strings.Repeat("a", 14) + "é", strings.Repeat("a", 15) + " ", strings.Repeat(" ", 16),
	} {
		if Name(s) {
			t.Errorf("Name(%.30q): true", s)
		}
	}
	if api.MaxName != 16 {
		t.Errorf("MaxName: %d", api.MaxName)
	}
}

func TestNameOfEveryByte(t *testing.T) {
	for c := range 256 {
		sign := string([]byte{byte(c)})
		letter := c >= 'a' && c <= 'z'
		behind := letter || c >= '0' && c <= '9' || c == '_'
		if Name(sign) != letter || Name(sign+"a") != letter || Name(sign+strings.Repeat("a", 15)) != letter {
			t.Errorf("Name, byte %d first: want %v", c, letter)
		}
		for place := 1; place < 16; place++ {
			for long := place + 1; long <= 16; long++ {
				s := strings.Repeat("a", place) + sign + strings.Repeat("b", long-place-1)
				if Name(s) != behind {
					t.Fatalf("Name(%q): want %v", s, behind)
				}
			}
		}
		if Name(strings.Repeat("a", 16) + sign) {
			t.Errorf("Name of 17 bytes, byte %d last: true", c)
		}
	}
}

func TestNumber(t *testing.T) {
	most := strings.Repeat("9", api.MaxDigit)
	for s, want := range map[string]string{
		"0": "0", "-0": "0", "0/7": "0", "-0/7": "0", "1": "1", "-1": "-1", "007": "7", "6/4": "3/2", "-6/4": "-3/2", "8/4": "2", "3/2": "3/2", "4294967296": "4294967296",
		"18446744073709551616/3": "18446744073709551616/3", most: most, "-" + most: "-" + most, "1/" + most: "1/" + most, most + "/" + most: "1",
	} {
		got, is := Number(s)
		if !is || !rat.Right(got) || rat.Text(got) != want {
			t.Errorf("Number(%.30q): %.30s %v, want %.30s", s, rat.Text(got), is, want)
		}
	}
}

func TestNumberOfOtherTexts(t *testing.T) {
	long := strings.Repeat("1", api.MaxDigit+1)
	for _, s := range []string{
		"", " ", "x", "x1", "1x", "-", "--1", "+1", "1-", " 1", "1 ", "1\n", "1 2", "1.5", "1e2", "0x1", "1_0", "#", "1#", "/", "1/", "/1", "1//2", "1/2/3", "1/-2", "-1/-2", "-/1", "1/x", "x/1", "1\x00", "٣", "1é", "\xff",
		"1/0", "0/0", "-0/0", "5/000", long, "-" + long, long + "/1", "1/" + long, "1/0" + long[1:], strings.Repeat("1", 1<<20),
	} {
		got, is := Number(s)
		if is || !rat.Right(got) || rat.Sign(got) != 0 {
			t.Errorf("Number(%.30q): %.30s %v, want 0 and false", s, rat.Text(got), is)
		}
	}
}

// Number reads what rat.Parse reads, and nothing else.
func TestNumberIsWhatParseReads(t *testing.T) {
	const signs = "0 7-/x"
	texts := []string{""}
	for from := 0; len(texts[from]) < 5; from++ {
		for k := range len(signs) {
			texts = append(texts, texts[from]+signs[k:k+1])
		}
	}
	for _, s := range texts {
		want, e := rat.Parse(s)
		got, is := Number(s)
		if is != (e == api.OK) || rat.Compare(got, want) != 0 || !rat.Right(got) {
			t.Fatalf("Number(%q): %s %v, rat.Parse %s, error %d", s, rat.Text(got), is, rat.Text(want), e)
		}
	}
}

// P7.2

func TestJoin(t *testing.T) {
	for _, c := range []struct {
		words []string
		want  string
	}{
		{nil, ""}, {[]string{}, ""}, {[]string{""}, ""}, {[]string{"", ""}, " "}, {[]string{"", "", ""}, "  "},
		{[]string{"a"}, "a"}, {[]string{"a", "b"}, "a b"}, {[]string{"a", "bc", "def"}, "a bc def"}, {[]string{"a", "a"}, "a a"},
		{[]string{"", "a"}, " a"}, {[]string{"a", ""}, "a "}, {[]string{"a", "", "b"}, "a  b"},
		{[]string{" ", "a b"}, "  a b"}, {[]string{"a\n", "#", "\xff", "é"}, "a\n # \xff é"},
	} {
		if got := Join(c.words...); got != c.want {
			t.Errorf("Join(%q): %q, want %q", c.words, got, c.want)
		}
	}
	if Join() != "" || Join("x") != "x" || Join("min", "x", "-", "2") != "min x - 2" {
		t.Errorf("Join: %q %q %q", Join(), Join("x"), Join("min", "x", "-", "2"))
	}
}

func TestJoinOfManyWords(t *testing.T) {
	const many = 100000
	words := make([]string, many)
	for k := range words {
		words[k] = "ab"
	}
	if got := Join(words...); got != strings.Repeat("ab ", many)[:3*many-1] {
		t.Errorf("Join of %d words: %d bytes", many, len(got))
	}
}

func TestIndex(t *testing.T) {
	for _, c := range []struct {
		l    []string
		s    string
		want int
	}{
		{nil, "", -1}, {nil, "a", -1}, {[]string{}, "", -1}, {[]string{}, "a", -1},
		{[]string{"a"}, "a", 0}, {[]string{"a"}, "b", -1}, {[]string{"a"}, "", -1}, {[]string{""}, "", 0}, {[]string{"a", ""}, "", 1},
		{[]string{"a", "b", "c"}, "a", 0}, {[]string{"a", "b", "c"}, "b", 1}, {[]string{"a", "b", "c"}, "c", 2}, {[]string{"a", "b", "c"}, "d", -1},
		{[]string{"a", "b", "b"}, "b", 1}, {[]string{"b", "a", "b", "a"}, "b", 0}, {[]string{"b", "a", "b", "a"}, "a", 1},
		{[]string{"ab", "abc", "a"}, "a", 2}, {[]string{"ab", "abc"}, "a", -1}, {[]string{"a"}, "ab", -1}, {[]string{"A"}, "a", -1}, {[]string{"a "}, "a", -1}, {[]string{"1", "01"}, "01", 1},
		{[]string{"\xff", "\xfe", "\ufffd"}, "\ufffd", 2}, {[]string{"\xff", "\xfe"}, "\xfe", 1},
	} {
		if got := Index(c.l, c.s); got != c.want {
			t.Errorf("Index(%q, %q): %d, want %d", c.l, c.s, got, c.want)
		}
	}
}

func TestIndexOfALongList(t *testing.T) {
	var l []string
	for k := range 3000 {
		l = append(l, fmt.Sprint("v", k))
	}
	for k, s := range l {
		if got := Index(l, s); got != k {
			t.Fatalf("Index: %d, want %d", got, k)
		}
	}
	if got := Index(append(l, l...), l[2999]); got != 2999 {
		t.Errorf("Index of what is there twice: %d", got)
	}
	// What stands behind a list's end is none of it.
	if got := Index(l[:10], l[10]); got != -1 {
		t.Errorf("Index behind the end: %d", got)
	}
}
