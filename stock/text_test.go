package stock

import (
	"fmt"
	"math/big"
	"regexp"
	"strings"
	"testing"

	"offcut/api"
)

// P10.1, Parse

func wantStock(t *testing.T, text, want string) {
	t.Helper()
	s, at, e := Parse(text)
	if e != api.OK || at != 0 || shown(s) != want || !Right(s) {
		t.Errorf("Parse(%.200q): %.200q, line %d, error %d, want %.200q", text, shown(s), at, e, want)
	}
}

func wantError(t *testing.T, text string, at int, e api.Errno) {
	t.Helper()
	s, gotAt, got := Parse(text)
	if got != e || gotAt != at || s.Roll != 0 || len(s.Items) != 0 {
		t.Errorf("Parse(%.200q): line %d, error %d, want line %d, error %d; %.90q", text, gotAt, got, at, e, shown(s))
	}
}

func TestParse(t *testing.T) {
	for text, want := range map[string]string{
		"roll 10\nitem 3 2\nitem 7 1":           "10 2x3 1x7",
		"roll 10\nitem 3 2\nitem 7 1\n":         "10 2x3 1x7",
		"roll 10":                               "10",
		"roll 10\n":                             "10",
		"roll 1":                                "1",
		"roll 1048576":                          "1048576",
		"roll 10\nitem 1 0":                     "10 0x1",
		"roll 10\nitem 1048576 1024":            "10 1024x1048576",
		"roll 10\nitem 11 1":                    "10 1x11",
		"roll 10\nitem 7 1\nitem 3 2\nitem 7 1": "10 1x7 2x3 1x7",
		"roll 10\nitem 3 2\nitem 3 2":           "10 2x3 2x3",
		"  roll   10  #y\n\n\n# item 3 2\n item  7  1 # item 1 1": "10 1x7",
		"# wood\n\nroll 10#1\nitem 7 1#2":                         "10 1x7",
		"roll 0010\nitem 007 00\nitem 0001 001":                   "10 0x7 1x1",
		"roll 2\nitem 1 2\nitem 2 1\nitem 3 0\nitem 4 1":          "2 2x1 1x2 0x3 1x4",
	} {
		wantStock(t, text, want)
	}
}

func TestParseOfNoLines(t *testing.T) {
	for _, text := range []string{"", "\n", "\n\n\n", " ", "   \n  ", "#", "# roll 10", "\n #roll 10\n   # item 1 1\n", strings.Repeat("\n", api.MaxText), strings.Repeat("#", api.MaxText)} {
		wantError(t, text, 0, api.ErrForm)
	}
}

func TestParseOfNoText(t *testing.T) {
	for _, text := range []string{"\t", "roll\t10", "roll 10\r\n", "roll é", "roll 10 # é", "roll 10\n\x00", "rolls 1\n\xff", "roll 0\n\x7f", "\x1f", "roll ٣", "roll 10\nitem 1 1\nitem 1\u00a01"} {
		wantError(t, text, 0, api.ErrForm)
	}
	full := "roll 10\nitem 3 2" + strings.Repeat(" ", api.MaxText-16)
	wantStock(t, full, "10 2x3")
	for _, text := range []string{full + " ", full + "\n", "\t" + full, full + "\x00", strings.Repeat("item 1 1\n", api.MaxText), strings.Repeat("\n", api.MaxText+1), "roll 0\n" + full} {
		wantError(t, text, 0, api.ErrMany)
	}
}

func TestParseOfNoRoll(t *testing.T) {
	for _, s := range []string{
		"roll", "roll 1 2", "roll 10 10", "roll 1 2 3", "roll 10 0", "roll roll", "roll roll 10", "item", "item 10", "item 1 1", "item 3 2", "10", "0", "10 roll", "rolls 10", "Roll 10", "ROLL 10", "rol 10", "oll 10", "roll: 10", "roll, 10", "roll10", "roll_10", "roll=10", "roll = 10",
		"* 10", "block x", "min x", "- 10", "roll - 10", "roll + 10", "roll 1 0", "roll 10 item 3 2", "roll 10.", "roll 10,", "x", "roll x", "roll \"10\"",
	} {
		wantError(t, s, 1, api.ErrForm)
		wantError(t, "\n# roll 10\n"+s+"# 10\nroll 10", 3, api.ErrForm)
		wantError(t, s+"\nitem\nitem 0 1", 1, api.ErrForm)
	}
	// What is behind a # is no other word.
	wantError(t, "roll # 10", 1, api.ErrForm)
	wantError(t, "\n\nroll#10\nroll 10", 3, api.ErrForm)
	wantError(t, "item 3 2\nroll 10", 1, api.ErrForm)
}

func TestParseOfNoItem(t *testing.T) {
	for _, s := range []string{
		"item", "item 1", "item 3", "item 3 2 1", "item 3 2 0", "item 3 2 3 2", "item 3 2 item 3 2", "roll 10", "roll", "roll 3 2", "roll 10 10", "items 3 2", "Item 3 2", "ITEM 3 2", "ite 3 2", "tem 3 2", "item: 3 2", "item, 3 2", "item3 2", "item 3x2", "item 3,2", "item 3, 2", "item 3 x 2", "item 3 2.",
		"3 2", "3 2 item", "3 item 2", "0", "item item", "item item 3", "item item 2 3", "item 3 item", "* 3 2", "x", "block x", "- 3 2", "item - 3", "item - 3 2", "item + 3 2",
	} {
		wantError(t, "roll 10\n"+s, 2, api.ErrForm)
		wantError(t, "# x\n\nroll 10\nitem 3 2\n\n#\n  "+s+"# 1\nitem 3 2\nitem 3", 7, api.ErrForm)
		wantError(t, "roll 10\nitem 7 1\nitem 1 1\n"+s, 4, api.ErrForm)
	}
	wantError(t, "roll 10\nitem 3 # 2", 2, api.ErrForm)
	wantError(t, "roll 10\nitem 3#2", 2, api.ErrForm)
	wantError(t, "roll 5\nroll 5", 2, api.ErrForm)
}

// noNumbers are words that are no whole numbers of digits alone, or far beyond all limits.
func noNumbers() []string {
	return []string{
		"-1", "+1", "-0", "+0", "--1", "1-", "1+", "-", "+", "/", "1/1", "2/1", "4/2", "3/2", "0/1", "1/", "/1", "1/0", "1//1", "-4/2", "-4/-2", "x", "one", "1x", "x1", "a_1", "roll", "item", "0x1", "0b1", "0o1", "1e1", "1_0", "_1", "1_", "1.0", "1.", ".1", "1,0", "'1'", "(1)", "1:", "=1", "~", "!", "Inf", "NaN",
		"2097152", "4294967295", "4294967296", "4294967297", "4294967306", "9223372036854775807", "9223372036854775808", "18446744073709551615", "18446744073709551616", "18446744073709551617", "18446744073709551626", "340282366920938463463374607431768211457",
		strings.Repeat("9", 399), strings.Repeat("9", 400), strings.Repeat("9", 401), strings.Repeat("1", 60000), "1" + strings.Repeat("0", 399), "1" + strings.Repeat("0", 60000), strings.Repeat("1", 400) + "/" + strings.Repeat("1", 400),
	}
}

// long is a number with noughts ahead of it, of as many digits.
func long(digits, n int) string {
	s := fmt.Sprint(n)
	return strings.Repeat("0", digits-len(s)) + s
}

// around is a text with a number at each place where one may be: as the roll, as a width, as a need.
func around(number string) []string {
	return []string{"roll " + number, "roll 5\nitem " + number + " 1", "roll 5\nitem 1 " + number}
}

func TestParseOfNumbers(t *testing.T) {
	for _, n := range []int{1, 2, 9, 10, 99, 100, 512, 1000, neediest - 1, neediest} {
		for _, number := range []string{fmt.Sprint(n), "0" + fmt.Sprint(n), long(20, n), long(21, n), long(39, n), long(399, n), long(400, n)} {
			for k, text := range around(number) {
				wantStock(t, text, []string{fmt.Sprint(n), fmt.Sprintf("5 1x%d", n), fmt.Sprintf("5 %dx1", n)}[k])
			}
		}
		// More digits than 400 make no number, whatever they are.
		for _, digits := range []int{401, 402, 1000, 60000} {
			for k, text := range around(long(digits, n)) {
				wantError(t, text, []int{1, 2, 2}[k], api.ErrForm)
			}
		}
	}
	for _, n := range []int{neediest + 1, 2047, 65536, widest - 1, widest} {
		for _, number := range []string{fmt.Sprint(n), long(20, n), long(400, n)} {
			texts := around(number)
			wantStock(t, texts[0], fmt.Sprint(n))
			wantStock(t, texts[1], fmt.Sprintf("5 1x%d", n))
			wantError(t, texts[2], 2, api.ErrForm)
		}
	}
	for _, nought := range []string{"0", "00", "000", long(400, 0)} {
		texts := around(nought)
		wantError(t, texts[0], 1, api.ErrForm)
		wantError(t, texts[1], 2, api.ErrForm)
		wantStock(t, texts[2], "5 0x1")
	}
	for _, number := range append(noNumbers(), fmt.Sprint(widest+1), long(20, widest+1), long(400, widest+1), long(401, 0)) {
		for k, text := range around(number) {
			wantError(t, text, []int{1, 2, 2}[k], api.ErrForm)
			wantError(t, "\n#\n"+text+"\nitem 1 1", []int{3, 4, 4}[k], api.ErrForm)
		}
	}
}

// items is as many lines, each of an item that may be.
func items(n int) string {
	return strings.Repeat("item 3 2\n", n)
}

func TestParseOfManyItems(t *testing.T) {
	sixty := "10" + strings.Repeat(" 2x3", 60)
	wantStock(t, "roll 10\n"+items(60), sixty)
	wantStock(t, "\nroll 10\n\n"+items(30)+"#\n"+items(30)+"# item 3 2\n", sixty)
	wantStock(t, "roll 10\n"+items(59), sixty[:len(sixty)-4])
	wantStock(t, "roll 10\n"+strings.Repeat("item 3 0\n", 60), strings.ReplaceAll(sixty, "2x", "0x"))
	wantError(t, "roll 10\n"+items(61), 62, api.ErrMany)
	wantError(t, "roll 10\n"+items(61)[:61*9-1], 62, api.ErrMany)
	wantError(t, "roll 10\n"+items(62), 62, api.ErrMany)
	wantError(t, "roll 10\n"+items(7000), 62, api.ErrMany)
	wantError(t, "roll 10\n"+strings.Repeat("item 3 0\n", 61), 62, api.ErrMany)
	wantError(t, "\nroll 10\n\n"+items(60)+"#\n\n"+items(1), 66, api.ErrMany)
	wantError(t, "roll 10\n"+items(60)+strings.Repeat("\n", 60000)+items(1), 60062, api.ErrMany)
}

// Where more is amiss than one thing.
func TestParseTellsTheFirst(t *testing.T) {
	for _, c := range []struct {
		text string
		at   int
		e    api.Errno
	}{
		// The first line that is amiss.
		{"roll 0\nitem", 1, api.ErrForm}, {"roll 10\nitem 3\nitem 0 0\n", 2, api.ErrForm}, {"roll 10\nitem 3 2\n\nitem 0 1\nitem\n", 4, api.ErrForm}, {"item\n" + items(70), 1, api.ErrForm}, {"roll 10\nitem 3 1025\n" + items(70), 2, api.ErrForm},
		{"roll 10\n" + items(59) + "item 3\n" + items(9), 61, api.ErrForm}, {"roll 10\n" + items(61) + "item 3\n", 62, api.ErrMany}, {"roll 10\n" + items(61) + "roll\n", 62, api.ErrMany},
		// A 61st item is one only if its line is an item's.
		{"roll 10\n" + items(60) + "item 3\n", 62, api.ErrForm}, {"roll 10\n" + items(60) + "item 0 1\n", 62, api.ErrForm}, {"roll 10\n" + items(60) + "item 1 1025\n", 62, api.ErrForm}, {"roll 10\n" + items(60) + "roll 10\n", 62, api.ErrForm},
		{"roll 10\n" + items(60) + "x\n" + items(1), 62, api.ErrForm}, {"roll 10\n" + items(60) + "item 3 2 1\n" + items(1), 62, api.ErrForm}, {"roll 10\n" + items(60) + "item +3 2\n" + items(1), 62, api.ErrForm},
		// What the text itself has is told ahead of its lines.
		{"roll 0\nitem\n\t", 0, api.ErrForm}, {"roll 10\n" + items(61) + "\t", 0, api.ErrForm}, {"roll 10\n" + items(61) + strings.Repeat("#", api.MaxText), 0, api.ErrMany}, {"roll\t0" + strings.Repeat(" ", api.MaxText), 0, api.ErrMany}, {"roll 0\n" + strings.Repeat("\n", api.MaxText), 0, api.ErrMany},
	} {
		wantError(t, c.text, c.at, c.e)
	}
}

// The forms of a stock's text, in another way than the program's own.
var (
	plainText  = regexp.MustCompile(`\A[\n -~]*\z`)
	remarkText = regexp.MustCompile(`#[^\n]*`)
	rollLine   = regexp.MustCompile(`\A *roll +([0-9]{1,400}) *\z`)
	itemLine   = regexp.MustCompile(`\A *item +([0-9]{1,400}) +([0-9]{1,400}) *\z`)
)

// within is a number between two others.
func within(digits string, low, high int64) (int, bool) {
	n, _ := new(big.Int).SetString(digits, 10)
	if n.Cmp(big.NewInt(low)) < 0 || n.Cmp(big.NewInt(high)) > 0 {
		return 0, false
	}
	return int(n.Int64()), true
}

// byPatterns is what Parse answers, in another way than the program's own.
func byPatterns(text string) (string, int, api.Errno) {
	if len(text) > 65536 {
		return shown(Stock{}), 0, api.ErrMany
	}
	if !plainText.MatchString(text) {
		return shown(Stock{}), 0, api.ErrForm
	}
	s, rolls := Stock{}, 0
	for k, line := range strings.Split(remarkText.ReplaceAllString(text, ""), "\n") {
		if strings.Trim(line, " ") == "" {
			continue
		}
		right := false
		if found := rollLine.FindStringSubmatch(line); rolls == 0 && found != nil {
			s.Roll, right = within(found[1], 1, 1<<20)
		}
		if found := itemLine.FindStringSubmatch(line); rolls == 1 && found != nil {
			width, isWidth := within(found[1], 1, 1<<20)
			need, isNeed := within(found[2], 0, 1<<10)
			s.Items, right = append(s.Items, Item{width, need}), isWidth && isNeed
		}
		rolls = 1
		if !right {
			return shown(Stock{}), k + 1, api.ErrForm
		}
		if len(s.Items) == 61 {
			return shown(Stock{}), k + 1, api.ErrMany
		}
	}
	if rolls == 0 {
		return shown(Stock{}), 0, api.ErrForm
	}
	return shown(s), 0, api.OK
}

func likePatterns(t *testing.T, text string) api.Errno {
	t.Helper()
	want, wantAt, wantE := byPatterns(text)
	s, at, e := Parse(text)
	if shown(s) != want || at != wantAt || e != wantE {
		t.Fatalf("Parse(%.200q): %q, line %d, error %d, want %q, line %d, error %d", text, shown(s), at, e, want, wantAt, wantE)
	}
	return e
}

// Every text of up to six pieces, alone and behind a roll.
func TestParseOfAllShortTexts(t *testing.T) {
	pieces := []string{"roll ", "item ", " 1", "0", "\n", "#", "+", "\nitem 2"}
	count := map[api.Errno]int{}
	texts := []string{""}
	for range 6 {
		var longer []string
		for _, text := range texts {
			for _, piece := range pieces {
				longer = append(longer, text+piece)
			}
		}
		texts = longer
		for _, text := range texts {
			count[likePatterns(t, text)]++
			count[likePatterns(t, "roll 7"+text)]++
		}
	}
	if count[api.OK] < 1000 || count[api.ErrForm] < 1000 {
		t.Errorf("the test's own texts are of few kinds: %v", count)
	}
}

func TestParseOfScattered(t *testing.T) {
	some := source(2)
	count := map[api.Errno]int{}
	for _, amiss := range []int{3, 20, 200, 1 << 30} {
		for range 1000 {
			count[likePatterns(t, some.stockText(amiss))]++
		}
	}
	if count[api.OK] < 500 || count[api.ErrForm] < 500 || count[api.ErrMany] < 50 {
		t.Errorf("the test's own texts are of few kinds: %v", count)
	}
}

// Every byte, at places of each kind.
func TestParseOfEveryByte(t *testing.T) {
	for c := range 256 {
		sign := string([]byte{byte(c)})
		for _, text := range []string{sign + "roll 10\nitem 3 2", "roll" + sign + "10\nitem 3 2", "roll 1" + sign + "0\nitem 3 2", "roll 10" + sign + "item 3 2", "roll 10\nit" + sign + "m 3 2", "roll 10\nitem" + sign + "3 2", "roll 10\nitem " + sign + "3 2", "roll 10\nitem 3" + sign + "2", "roll 10\nitem 3 " + sign + "2", "roll 10\nitem 3 2" + sign, "roll 10\nitem 3 " + sign, "roll " + sign} {
			likePatterns(t, text)
		}
	}
}

// P10.1, Print

func TestPrint(t *testing.T) {
	for _, c := range []struct {
		s    Stock
		want string
	}{
		{of(10), "roll 10\n"}, {Stock{10, []Item{}}, "roll 10\n"}, {of(1), "roll 1\n"}, {of(widest), "roll 1048576\n"}, {of(10, 3, 2), "roll 10\nitem 3 2\n"}, {of(10, 3, 0), "roll 10\nitem 3 0\n"},
		{of(10, 3, 2, 7, 1), "roll 10\nitem 3 2\nitem 7 1\n"}, {of(10, 7, 1, 3, 2), "roll 10\nitem 7 1\nitem 3 2\n"}, {of(10, 11, 1, 11, 0), "roll 10\nitem 11 1\nitem 11 0\n"}, {of(5, widest, neediest, 1, 0), "roll 5\nitem 1048576 1024\nitem 1 0\n"},
		{alike(10, fullest, Item{3, 2}), "roll 10\n" + items(60)}, {alike(10, fullest-1, Item{3, 2}), "roll 10\n" + items(59)},
	} {
		if got, e := Print(c.s); got != c.want || e != api.OK {
			t.Errorf("Print of %.200s: %.200q, error %d, want %.200q", shown(c.s), got, e, c.want)
		}
	}
}

func TestPrintOfWhatMayNotBe(t *testing.T) {
	for name, s := range wrongStocks() {
		if got, e := Print(s); got != "" || e != api.ErrArg {
			t.Errorf("Print, %s: %.90q, error %d", name, got, e)
		}
	}
}

// P10.3

func again(t *testing.T, s Stock) {
	t.Helper()
	text, e := Print(s)
	if e != api.OK {
		t.Fatalf("Print of %.200s: error %d", shown(s), e)
	}
	wantStock(t, text, shown(s))
	got, _, _ := Parse(text)
	if twice, e := Print(got); e != api.OK || twice != text {
		t.Fatalf("Print of what was printed and parsed: %.200q, error %d, want %.200q", twice, e, text)
	}
}

func TestParseOfWhatWasPrinted(t *testing.T) {
	for _, s := range rightStocks() {
		again(t, s)
	}
	for n := range 1200 {
		again(t, of(1+n, 1+n, n%(neediest+1)))
		again(t, of(widest-n, widest-n, neediest-n%(neediest+1)))
	}
	some := source(3)
	for range 1000 {
		again(t, some.stock())
	}
}
