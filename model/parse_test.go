package model

import (
	"fmt"
	"math/big"
	"regexp"
	"slices"
	"strings"
	"testing"

	"offcut/api"
	"offcut/rat"
)

// P8.1, Parse

func TestParse(t *testing.T) {
	for text, want := range map[string]string{
		"min x - 2 y\nr: x + y <= 3/2": "[x y] [1 -2] r[1 1]-1 3/2", // the chapter's example
		"min 0":                        "[] []",
		"min 0\n":                      "[] []",
		"min x":                        "[x] [1]",
		"min - x":                      "[x] [-1]",
		"min 2 x":                      "[x] [2]",
		"min - 2 x":                    "[x] [-2]",
		"min 0 x":                      "[x] [0]",
		"min - 0 x":                    "[x] [0]",
		"min 0 x - 0/5 y + 00 z":       "[x y z] [0 0 0]",
		"min 6/4 x - 8/2 y + 1/3 z":    "[x y z] [3/2 -4 1/3]",
		"min x + y - z":                "[x y z] [1 1 -1]",
		"min - x - y + 3 z":            "[x y z] [-1 -1 3]",
		"min c + b + a":                "[c b a] [1 1 1]",
		"min min":                      "[min] [1]",
		"min 007 x":                    "[x] [7]",

		"min 0\na: 0 = 0":                    "[] [] a[]0 0",
		"min 0\na: 0 = 1\nb: 0 <= -1/2":      "[] [] a[]0 1 b[]-1 -1/2",
		"min x\na: 0 <= 1\nb: 0 >= 2":        "[x] [1] a[0]-1 1 b[0]1 2",
		"min x\na: x <= 1":                   "[x] [1] a[1]-1 1",
		"min x\na: x = 1":                    "[x] [1] a[1]0 1",
		"min x\na: x >= 1":                   "[x] [1] a[1]1 1",
		"min x\na: - x >= -6/4":              "[x] [1] a[-1]1 -3/2",
		"min x\na: x <= -0":                  "[x] [1] a[1]-1 0",
		"min x\na: 1/2 x = 8/4":              "[x] [1] a[1/2]0 2",
		"min x\nx: x <= 1\ny: y <= 2":        "[x y] [1 0] x[1 0]-1 1 y[0 1]-1 2",
		"min x\nmin: min <= 1":               "[x min] [1 0] min[0 1]-1 1",
		"min x + y\nx: y = 1\ny: x = 2":      "[x y] [1 1] x[0 1]0 1 y[1 0]0 2",
		"min 0\na: z - y >= 1\nb: 5 x = 2":   "[z y x] [0 0 0] a[1 -1 0]1 1 b[0 0 5]0 2",
		"min b\na: c + b <= 1\nd: a + c = 2": "[b c a] [1 0 0] a[1 1 0]-1 1 d[0 1 1]0 2",
		"min x\na: y + x = 1\nb: x + y = 1":  "[x y] [1 0] a[1 1]0 1 b[1 1]0 1",
		"min x\na: 0 y <= 1":                 "[x y] [1 0] a[0 0]-1 1",
		"min x\na: x <= 1\nb: x <= 1":        "[x] [1] a[1]-1 1 b[1]-1 1",

		"\n\n# what\n  min   x #y\n\n a:   x  <=   1   \n#\n":                                 "[x] [1] a[1]-1 1",
		"#min y\nmin x#+ y\na: x <= 1#2":                                                      "[x] [1] a[1]-1 1",
		"min abcdefghijklmnop + a\nabcdefghijklmnop: a = 1":                                   "[abcdefghijklmnop a] [1 1] abcdefghijklmnop[0 1]0 1",
		"min " + strings.Repeat("9", 400) + " x\na: x = -" + strings.Repeat("8", 400) + "/16": "[x] [" + strings.Repeat("9", 400) + "] a[1]0 -" + strings.Repeat("1", 400) + "/2",
	} {
		m, at, e := Parse(text)
		if e != api.OK || at != 0 || shown(m) != want || !lowest(m) || !Right(m) {
			t.Errorf("Parse(%.200q): %.200s, line %d, error %d, want %.200s", text, shown(m), at, e, want)
		}
	}
}

func wantError(t *testing.T, text string, at int, e api.Errno) {
	t.Helper()
	m, gotAt, got := Parse(text)
	if got != e || gotAt != at || !nothingTold(m) {
		t.Errorf("Parse(%.90q): line %d, error %d, want line %d, error %d; %.90s", text, gotAt, got, at, e, shown(m))
	}
}

func TestParseOfWhatIsNoText(t *testing.T) {
	for _, text := range []string{"", "\n", "\n\n \n", " ", "#", "# min x", "\n#a\n  # b\n", strings.Repeat("\n", api.MaxText)} {
		wantError(t, text, 0, api.ErrForm)
	}
	for _, text := range []string{"\t", "min\tx", "min é", "min — x", "min x\r\n", "min x\na: x <= 1 # é", "max x\n\x00", "min x + x\n\xff"} {
		wantError(t, text, 0, api.ErrForm)
	}
	full := "min x\n" + strings.Repeat("#", api.MaxText-6)
	if m, at, e := Parse(full); e != api.OK || at != 0 || shown(m) != "[x] [1]" {
		t.Errorf("Parse of 2^16 bytes: %s, line %d, error %d", shown(m), at, e)
	}
	for _, text := range []string{full + "#", "\t" + full, full + "\x00", strings.Repeat("max ", api.MaxText), strings.Repeat("\n", api.MaxText+1)} {
		wantError(t, text, 0, api.ErrMany)
	}
}

// noSums are words that are no sum, in the first line as in a row.
func noSums() []string {
	return []string{
		"", "-", "+", "- -", "+ -", "0 0", "00", "0/1", "- 0", "+ 0", "0 -", "0 +", "1", "- 1", "1/2", "x 0", "0 + x", "x + 0", "x - 0",
		"+ x", "+ 2 x", "x -", "x +", "2 x -", "x - y +", "- x -", "- - x", "- + x", "+ - x", "x - - y", "x + + y", "x + - y", "x - + y", "x - -2 y",
		"2", "x + 2", "x - 2", "2 + x", "x y", "x 2", "2 x y", "2 x 3", "2 x 3 y", "2 3 x", "x 2 y", "1 2", "x + y z", "x + 2 3 y", "x + 2 y 3",
		"-1 x", "-x", "+x", "-0 x", "-1/2 x", "x + -1 y", "x - -1 y", "x + -0 y", "x + -y", "x-", "x-y", "x- y", "x -y", "x+y", "2x", "2*x", "2 * x", "x + 2x",
		"X", "1x", "_x", "x!", "abcdefghijklmnopq", "2 X", "2 abcdefghijklmnopq", "x + X", "x:", "x : y", "x, y",
		"1.5 x", "1/0 x", "0/0 x", "1/-2 x", "/2 x", "1/ x", "1 / 2 x", "+1 x", "1e2 x", "x * y", "( x )", "x <= 1", "x = y", "<=", "= x", "min x", "a: x",
		"x ^ y", "-- x", "x ++ y", "x -+ y",
	}
}

func TestParseOfNoSum(t *testing.T) {
	for _, s := range append(noSums(), strings.Repeat("9", 401)+" x", "x + 1/"+strings.Repeat("9", 401)+" y", strings.Repeat("x", 60000)) {
		wantError(t, "min "+s, 1, api.ErrForm)
		wantError(t, "#\n\nmin "+s+"\na: x <= 1", 3, api.ErrForm)
		wantError(t, "min x\n\n\na: "+s+" <= 1", 4, api.ErrForm)
		wantError(t, "min x\na: x >= 1\nb: "+s+" = 1/2\nc: x <= 2", 3, api.ErrForm)
	}
}

func TestParseOfFirstLines(t *testing.T) {
	for _, s := range []string{
		"max x", "x", "min", "Min x", "MIN x", "min: x", "min : x", "minx", "min:", "minimize x", "mi x", "n x", "0", "a: x <= 1", "min: x <= 1", "- x", "<=", "min x <= 1", "min x = 1", "min a: x", "minmin x", "min x ;", "min x, y",
	} {
		wantError(t, s, 1, api.ErrForm)
		wantError(t, "\n"+s+"\nmin x\na: x <= 1", 2, api.ErrForm)
	}
}

func TestParseOfRows(t *testing.T) {
	long := strings.Repeat("9", 401)
	for _, s := range []string{
		"a", "a:", "a: x", "a: 1", "a: <=", "a: x <=", "a: <= 1", "a: = 1", "a: x 1", "x <= 1", "<= 1", "<=", "1", "0", "0 = 0", "a 0 = 0", "min x", "min 0", "min",
		"a x <= 1", "a : x <= 1", ": x <= 1", ": a: x <= 1", "a :x <= 1", "a:x <= 1", "a:: x <= 1", ":a x <= 1", ":a: x <= 1", "A: x <= 1", "1: x <= 1", "1a: x <= 1", "_: x <= 1", "a-b: x <= 1", "a,: x <= 1", "abcdefghijklmnopq: x <= 1", "a: a: x <= 1", "a: b: x <= 1", "a b: x <= 1",
		"a: x < 1", "a: x > 1", "a: x == 1", "a: x =< 1", "a: x => 1", "a: x <> 1", "a: x != 1", "a: x < = 1", "a: x > = 1", "a: x <=1", "a: x<= 1", "a: x<=1", "a: x <== 1", "a: x , 1", "a: x + 1", "a: x - 1", "a: x le 1", "a: x : 1", "a: x y 1", "a: x # <= 1", "a: x <= # 1",
		"a: x <= <= 1", "a: x <= = 1", "a: x = >= 1", "a: x <= 1 <= 2", "a: 1 <= x <= 2", "a: x <= 1 >= 1",
		"a: x <= y", "a: x <= x", "a: x <= 2 x", "a: x <= - 1", "a: x <= + 1", "a: x <= +1", "a: x <= --1", "a: x <= 1.5", "a: x <= 1e2", "a: x <= 1/0", "a: x <= 1/-2", "a: x <= 1/", "a: x <= /2", "a: x <= -", "a: x <= 1 / 2", "a: x <= 0x1", "a: x <= " + long, "a: x <= -" + long, "a: x <= 1/" + long,
		"a: x <= 1 2", "a: x <= 1 x", "a: x <= 1 ;", "a: x <= 1 -", "a: x <= 1 + x", "a: x <= 0 + 1", "a: x <= 1 b: x <= 1", "a: 0 <= y", "a: 1 <= 1", "a: - <= 1", "1 a: x <= 1", "- a: x <= 1",
	} {
		wantError(t, "min x\n"+s, 2, api.ErrForm)
		wantError(t, "min x\n# row\nr: x <= 1\n\n"+s+"\ns: x <= 1\n", 5, api.ErrForm)
	}
}

func TestParseOfNamesTwice(t *testing.T) {
	for _, s := range []string{"x + x", "x - x", "- x - x", "- x + 2 x", "x + y - x", "y + x + x", "2 x + 3 x", "0 x + 0 x", "y + x + z + x", "x + y + y + x", "x + y + z + w + z", "abcdefghijklmnop + x - abcdefghijklmnop"} {
		wantError(t, "min "+s, 1, api.ErrName)
		wantError(t, "\n\nmin "+s+"\na: x <= 1", 3, api.ErrName)
		wantError(t, "min x\na: "+s+" <= 1", 2, api.ErrName)
		wantError(t, "min 0\na: 0 <= 1\n\nb: "+s+" >= 1\nc: 0 = 0", 4, api.ErrName)
	}
	wantError(t, "min x\na: x <= 1\na: x <= 2", 3, api.ErrName)
	wantError(t, "min x\na: x <= 1\nb: x = 1\n#\na: y = 2\n", 5, api.ErrName)
	wantError(t, "min x\na: 0 = 0\na: 0 = 0", 3, api.ErrName)
	wantError(t, "min x\nx: x <= 1\nx: x <= 1", 3, api.ErrName)
	wantError(t, "min x\nmin: x <= 1\nmin: x <= 1", 3, api.ErrName)
	wantError(t, "min x\nb: x <= 1\na: x <= 1\nb: x <= 1\na: x <= 1", 4, api.ErrName)
}

// sum is a sum of as many variables, from one on.
func sum(from, many int) string {
	var all []string
	for k := range many {
		all = append(all, fmt.Sprint("v", from+k))
	}
	return strings.Join(all, " + ")
}

// lots are as many rows, with numbers from one on.
func lots(from, many int) string {
	var text strings.Builder
	for k := range many {
		fmt.Fprintf(&text, "r%d: v0 <= %d\n", from+k, k)
	}
	return text.String()
}

func TestParseOfLimits(t *testing.T) {
	for text, want := range map[string][2]int{
		"min " + sum(0, 60):                 {60, 0},
		"min 0\na: " + sum(0, 60) + " <= 1": {60, 1},
		"min " + sum(0, 59) + "\na: v58 + v59 + v0 <= 1\nb: " + sum(0, 60) + " = 1":      {60, 2},
		"min " + sum(0, 60) + "\n" + lots(0, 60):                                         {60, 60},
		"min v0\n" + lots(0, 60):                                                         {1, 60},
		"min 0\n" + lots(0, 59) + "a: " + sum(0, 60) + " >= 1":                           {60, 60},
		"min " + sum(0, 60) + "\n" + lots(0, 59) + "a: " + sum(0, 60) + " >= 1\n\n#\n":   {60, 60},
		"min " + sum(0, 30) + "\na: " + sum(20, 20) + " = 1\nb: " + sum(35, 25) + " = 1": {60, 2},
	} {
		m, at, e := Parse(text)
		if e != api.OK || at != 0 || len(m.Vars) != want[0] || len(m.Rows) != want[1] || !Right(m) {
			t.Errorf("Parse(%.90q): %d variables, %d rows, line %d, error %d", text, len(m.Vars), len(m.Rows), at, e)
		}
	}
	wantError(t, "min "+sum(0, 61), 1, api.ErrMany)
	wantError(t, "min "+sum(0, 1000), 1, api.ErrMany)
	wantError(t, "min "+sum(0, 60)+"\na: v60 <= 1", 2, api.ErrMany)
	wantError(t, "min "+sum(0, 60)+"\na: 0 v60 <= 1", 2, api.ErrMany)
	wantError(t, "min "+sum(0, 60)+"\na: "+sum(0, 61)+" <= 1", 2, api.ErrMany)
	wantError(t, "min 0\n\na: "+sum(0, 61)+" <= 1", 3, api.ErrMany)
	wantError(t, "min "+sum(0, 59)+"\na: v60 <= 1\nb: v61 <= 1\nc: v62 <= 1", 3, api.ErrMany)
	wantError(t, "min "+sum(0, 30)+"\na: "+sum(20, 20)+" = 1\nb: "+sum(35, 26)+" = 1", 3, api.ErrMany)
	wantError(t, "min v0\n"+lots(0, 61), 62, api.ErrMany)
	wantError(t, "min v0\n"+lots(0, 1000), 62, api.ErrMany)
	wantError(t, "min 0\n"+lots(0, 60)+"\n#\nmore: 0 = 0\n", 64, api.ErrMany)
	wantError(t, "min "+sum(0, 60)+"\n"+lots(0, 60)+"more: v60 = 0", 62, api.ErrMany)
}

// Of one line, the form of all of it comes first, then names, then how many there are; of two, the first line's.
func TestParseFirstError(t *testing.T) {
	vars, rows := "min "+sum(0, 60)+"\n", "min v0\n"+lots(0, 60)
	for _, c := range []struct {
		text string
		at   int
		e    api.Errno
	}{
		{"min x + x -", 1, api.ErrForm},
		{"min x + x +", 1, api.ErrForm},
		{"min x + x 2", 1, api.ErrForm},
		{"max x + x", 1, api.ErrForm},
		{"min " + sum(0, 61) + " -", 1, api.ErrForm},
		{"min " + sum(0, 61) + " + v0", 1, api.ErrName},
		{"min " + sum(0, 61) + " + v60", 1, api.ErrName},
		{"min v0 + " + sum(0, 61), 1, api.ErrName},
		{"min " + sum(0, 61) + " + v0 + 1", 1, api.ErrForm},
		{"min x\na: x + x <= y", 2, api.ErrForm},
		{"min x\na: x + x < 1", 2, api.ErrForm},
		{"min x\na: x <= 1\na: x", 3, api.ErrForm},
		{"min x\na: x <= 1\na: x + x <= 1 1", 3, api.ErrForm},
		{"min x\na: x <= 1\na: x + x <= 1", 3, api.ErrName},
		{vars + "a: v60 < 1", 2, api.ErrForm},
		{vars + "a: v60 + v60 <= 1", 2, api.ErrName},
		{vars + "a: v60 + v0 + v0 <= 1", 2, api.ErrName},
		{vars + "a: v0 <= 1\na: v60 <= 1", 3, api.ErrName},
		{vars + "a: v0 <= 1\na: v60 <= x", 3, api.ErrForm},
		{rows + "r0: v0 <= 1", 62, api.ErrName},
		{rows + "r59: 0 <= 1", 62, api.ErrName},
		{rows + "more: x + x <= 1", 62, api.ErrName},
		{rows + "more: x <= 1 1", 62, api.ErrForm},
		{rows + "r0: x", 62, api.ErrForm},
		{rows + "min x", 62, api.ErrForm},
		{rows + "more: " + sum(0, 61) + " <= 1", 62, api.ErrMany},

		{"min x + x\nb", 1, api.ErrName},
		{"min " + sum(0, 61) + "\nb", 1, api.ErrMany},
		{"min " + sum(0, 61) + "\na: x + x <= 1", 1, api.ErrMany},
		{"min x\na: x + x <= 1\nb", 2, api.ErrName},
		{"min x\nb\na: x + x <= 1", 2, api.ErrForm},
		{vars + "a: v60 <= 1\nb", 2, api.ErrMany},
		{vars + "a: v60 <= 1\na: v0 <= 1", 2, api.ErrMany},
		{vars + lots(0, 60) + "more: v0 <= 1\nb\nr0: v0 <= 1", 62, api.ErrMany},
		{"b\nmin x + x", 1, api.ErrForm},
		{"min x\na: x <= 1\na: x <= 1\nb\n" + lots(0, 61), 3, api.ErrName},
	} {
		wantError(t, c.text, c.at, c.e)
	}
}

var (
	sumForm  = `(0|(?:- )?(?:\d+(?:/\d+)? )?[a-z][a-z0-9_]*(?: [-+] (?:\d+(?:/\d+)? )?[a-z][a-z0-9_]*)*)`
	leastRow = regexp.MustCompile(`^min ` + sumForm + `$`)
	otherRow = regexp.MustCompile(`^([a-z][a-z0-9_]*): ` + sumForm + ` (<=|=|>=) (-?\d+(?:/\d+)?)$`)
	oneTerm  = regexp.MustCompile(`([-+])? ?(\d+(?:/\d+)?)? ?([a-z][a-z0-9_]*)`)
	noughts  = regexp.MustCompile(`/0+( |$)`)
)

// decimal is a fraction's digits, read as such whatever noughts are ahead.
func decimal(s string) *big.Rat {
	ahead, behind, is := strings.Cut(s, "/")
	if !is {
		behind = "1"
	}
	num, _ := new(big.Int).SetString(ahead, 10)
	den, _ := new(big.Int).SetString(behind, 10)
	return new(big.Rat).SetFrac(num, den)
}

// byForm reads a model by patterns: it shows the model, or tells the line and the error. The text has plain bytes, short names and numbers, and no lines without words.
func byForm(text string) (string, int, api.Errno) {
	var vars, names []string
	var sums []map[string]*big.Rat
	var ends [][2]string
	for k, line := range strings.Split(strings.TrimSuffix(text, "\n"), "\n") {
		words := strings.Join(strings.Fields(line), " ")
		found := otherRow.FindStringSubmatch(words)
		if k == 0 {
			if found = leastRow.FindStringSubmatch(words); found != nil {
				found = []string{"", "", found[1], "", ""}
			}
		}
		if found == nil || noughts.MatchString(words) {
			return "", k + 1, api.ErrForm
		}
		numbers := map[string]*big.Rat{}
		for _, term := range oneTerm.FindAllStringSubmatch(found[2], -1) {
			if numbers[term[3]] != nil {
				return "", k + 1, api.ErrName
			}
			size := big.NewRat(1, 1)
			if term[2] != "" {
				size = decimal(term[2])
			}
			if term[1] == "-" {
				size.Neg(size)
			}
			numbers[term[3]] = size
			if !slices.Contains(vars, term[3]) {
				vars = append(vars, term[3])
			}
		}
		if k > 0 && slices.Contains(names, found[1]) {
			return "", k + 1, api.ErrName
		}
		if len(vars) > 60 || k > 60 {
			return "", k + 1, api.ErrMany
		}
		rel := map[string]string{"<=": "-1", "=": "0", ">=": "1"}[found[3]]
		names, sums, ends = append(names, found[1]), append(sums, numbers), append(ends, [2]string{rel, found[4]})
	}
	return showing(vars, names, sums, ends), 0, api.OK
}

// showing is what shown tells of what byForm read.
func showing(vars, names []string, sums []map[string]*big.Rat, ends [][2]string) string {
	text := ""
	for k, numbers := range sums {
		var all []string
		for _, name := range vars {
			v := numbers[name]
			if v == nil {
				v = new(big.Rat)
			}
			all = append(all, v.RatString())
		}
		if k == 0 {
			text = fmt.Sprint(vars, all)
			continue
		}
		text += fmt.Sprintf(" %s%v%s %s", names[k], all, ends[k][0], decimal(ends[k][1]).RatString())
	}
	return text
}

// asByForm parses a text in both ways.
func asByForm(t *testing.T, text string) api.Errno {
	t.Helper()
	want, wantAt, wantE := byForm(text)
	m, at, e := Parse(text)
	if e != wantE || at != wantAt || e == api.OK && (shown(m) != want || !Right(m) || !lowest(m)) || e != api.OK && !nothingTold(m) {
		t.Fatalf("Parse(%.200q): %.200s, line %d, error %d, want %.200s, line %d, error %d", text, shown(m), at, e, want, wantAt, wantE)
	}
	return e
}

// everyText parses what begins so, and goes on with up to so many of the words, in each order.
func everyText(t *testing.T, begin string, most int, words ...string) {
	t.Helper()
	found := 0
	texts := []string{begin}
	for range most + 1 {
		var longer []string
		for _, text := range texts {
			if asByForm(t, text) == api.OK {
				found++
			}
			for _, word := range words {
				longer = append(longer, text+" "+word)
			}
		}
		texts = longer
	}
	if found < 20 {
		t.Errorf("Parse of %q, and more: only %d models", begin, found)
	}
}

func TestParseOfEveryShortSum(t *testing.T) {
	everyText(t, "min", 6, "x", "y", "2", "-", "+", "0")
	everyText(t, "min", 4, "x", "min", "1/2", "-1", "-0", "-", "+", "0", "00", "x:", "<=", "4/0")
}

func TestParseOfEveryShortRow(t *testing.T) {
	everyText(t, "min x\nr:", 5, "x", "2", "-", "+", "0", "<=", "=", "-1")
	everyText(t, "min x\nr: x = 1\n", 5, "r:", "a:", "x", "0", "=", ">=", "-1/2", "min")
}

// Texts of models, with a word changed here and there.
func TestParseOfScatteredTexts(t *testing.T) {
	some := source(2)
	said := map[api.Errno]int{}
	for range 20000 {
		text, _ := Print(some.rightModel(some.upTo(4), some.upTo(4)))
		words := strings.Split(strings.ReplaceAll(text, "\n", " \n "), " ")
		for range some.upTo(4) {
			words = some.otherWords(words)
		}
		if lines := withWords(strings.Join(words, " ")); len(lines) > 0 {
			said[asByForm(t, strings.Join(lines, "\n"))]++
		}
	}
	if said[api.OK] < 1000 || said[api.ErrForm] < 1000 || said[api.ErrName] < 200 {
		t.Errorf("too few of a kind were tried: %v", said)
	}
}

// otherWords is words with one more, with another one in the place of one, or with a name in the place of a name of its kind.
func (s scatter) otherWords(words []string) []string {
	more := []string{"", "min", "0", "-", "+", "<=", "=", ">=", "1", "-2", "3/4", "5/0", "x", "y", "r:", "s:", ":", "<", "x x", "\n", "a_0", "a_1:"}
	place := s.upTo(len(words))
	switch s.upTo(4) {
	case 0:
		words[place] = more[s.upTo(len(more))]
	case 1:
		words[place] = words[s.upTo(len(words))]
	case 2:
		return slices.Insert(words, place, more[s.upTo(len(more))])
	default:
		rows := s.upTo(2) == 0
		var names []int
		for k, word := range words {
			if strings.Contains(word, "_") && strings.HasSuffix(word, ":") == rows {
				names = append(names, k)
			}
		}
		if len(names) > 0 {
			words[names[s.upTo(len(names))]] = words[names[s.upTo(len(names))]]
		}
	}
	return words
}

// withWords is the lines of a text that have words.
func withWords(text string) []string {
	return slices.DeleteFunc(strings.Split(text, "\n"), func(line string) bool { return strings.TrimSpace(line) == "" })
}

// Lines of tens of thousands of words are read, too.
func TestParseOfLongLines(t *testing.T) {
	for _, text := range []string{
		"min x" + strings.Repeat(" + x", 16000), "min " + sum(0, 8000), "min 0" + strings.Repeat(" 0", 32000), "min" + strings.Repeat(" -", 32000), "min x\na: x" + strings.Repeat(" - x", 16000) + " <= 1", "min x\na: " + sum(0, 8000) + " <= 1", "min x\na:" + strings.Repeat(" =", 32000), "min x\n" + lots(0, 3000),
	} {
		asByForm(t, text)
	}
}

func TestParseAgain(t *testing.T) {
	const text = "min b - a\nr: c + a <= 1\nq: b + d = 2\n"
	want, _, _ := Parse(text)
	for range 20 {
		if m, at, e := Parse(strings.Clone(text)); e != api.OK || at != 0 || shown(m) != shown(want) {
			t.Fatalf("Parse, again: %s, want %s", shown(m), shown(want))
		}
		wantError(t, text+"r: b + b <= 1\nq: x", 4, api.ErrName)
	}
}

func TestParseOfSigns(t *testing.T) {
	for _, c := range [][2]string{{"- 3 x", "-3"}, {"3 x", "3"}, {"- x", "-1"}, {"x", "1"}, {"- 0 x", "0"}, {"- 2/3 x", "-2/3"}} {
		for _, text := range []string{"min " + c[0], "min 0\nr: " + c[0] + " = 1"} {
			m, _, e := Parse(text)
			if e != api.OK {
				t.Fatalf("Parse(%q): error %d", text, e)
			}
			got := m.Cost[0]
			if len(m.Rows) > 0 {
				got = m.Rows[0].Coef[0]
			}
			if rat.Text(got) != c[1] || !rat.Right(got) {
				t.Errorf("Parse(%q): %s, want %s", text, rat.Text(got), c[1])
			}
		}
	}
}
