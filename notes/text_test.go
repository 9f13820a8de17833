package notes

import (
	"fmt"
	"regexp"
	"slices"
	"strings"
	"testing"

	"offcut/api"
	"offcut/model"
)

// P9.1, Parse

func wantNotes(t *testing.T, m model.Model, text, want string) {
	t.Helper()
	n, at, e := Parse(m, text)
	if e != api.OK || at != 0 || shown(n) != want || !Right(m, n) {
		t.Errorf("Parse(%.200q): %.200q, line %d, error %d, want %.200q", text, shown(n), at, e, want)
	}
}

func wantError(t *testing.T, m model.Model, text string, at int, e api.Errno) {
	t.Helper()
	n, gotAt, got := Parse(m, text)
	if got != e || gotAt != at || len(n.Blocks) != 0 {
		t.Errorf("Parse(%.200q): line %d, error %d, want line %d, error %d; %.90q", text, gotAt, got, at, e, shown(n))
	}
}

func TestParse(t *testing.T) {
	m := of("x y z w")
	for text, want := range map[string]string{
		"block z\nblock y x":                            "0 1|2", // the chapter's example
		"block z\nblock y x\n":                          "0 1|2",
		"block x":                                       "0",
		"block w":                                       "3",
		"block x y z w":                                 "0 1 2 3",
		"block w z y x":                                 "0 1 2 3",
		"block z x w y":                                 "0 1 2 3",
		"block x\nblock y\nblock z\nblock w":            "0|1|2|3",
		"block w\nblock z\nblock y\nblock x":            "0|1|2|3",
		"block y\nblock w\nblock x\nblock z":            "0|1|2|3",
		"block x w\nblock y z":                          "0 3|1 2",
		"block z y\nblock w x":                          "0 3|1 2",
		"block w y\nblock z":                            "1 3|2",
		"block z\nblock w y":                            "1 3|2",
		"block w\nblock x z":                            "0 2|3",
		"  block   x  #y\n\n\n# block y\n block  z  y ": "0|1 2",
		"block x#y":                                     "0",
		"#\n#\nblock w # the last one":                  "3",
	} {
		wantNotes(t, m, text, want)
	}
	for _, text := range []string{"", "\n", "\n\n\n", " ", "   \n  ", "#", "# block x", "\n #block x\n   # block x block\n", strings.Repeat("\n", api.MaxText)} {
		wantNotes(t, m, text, "")
		wantNotes(t, of(""), text, "")
		wantNotes(t, model.Model{}, text, "")
	}
}

// A name is a variable's, whatever else it means.
func TestParseOfNamesOfTheText(t *testing.T) {
	m := of("min block x blocks bloc")
	wantNotes(t, m, "block block", "1")
	wantNotes(t, m, "block x block min", "0 1 2")
	wantNotes(t, m, "block bloc\nblock block\nblock blocks", "1|3|4")
	wantError(t, m, "block block block", 1, api.ErrName)
	wantError(t, m, "block x\nblock block\nblock min block", 3, api.ErrName)
	wantError(t, m, "blocks block", 1, api.ErrForm)
	wantError(t, m, "block", 1, api.ErrForm)
	wantError(t, of("x"), "block block", 1, api.ErrName)
	longest := strings.Repeat("a", api.MaxName)
	wantNotes(t, of("a "+longest), "block "+longest+"\nblock a", "0|1")
	wantError(t, of("a "+longest), "block "+longest+"a", 1, api.ErrName)
	wantError(t, of("a "+longest), "block "+longest[1:], 1, api.ErrName)
	// A row's name is none of a variable.
	wantError(t, read("min x\nr: x = 1"), "block r", 1, api.ErrName)
	wantNotes(t, read("min x\nr: r = 1"), "block r x", "0 1")
}

func TestParseOfNoText(t *testing.T) {
	m := of("x y")
	for _, text := range []string{"\t", "block\tx", "block x\r\n", "block é", "block x # é", "block x\n\x00", "blocks q\n\xff", "block x x\n\x7f", "\x1f"} {
		wantError(t, m, text, 0, api.ErrForm)
	}
	full := "block y" + strings.Repeat(" ", api.MaxText-7)
	wantNotes(t, m, full, "1")
	for _, text := range []string{full + " ", full + "\n", "\t" + full, full + "\x00", strings.Repeat("block x ", api.MaxText), strings.Repeat("\n", api.MaxText+1)} {
		wantError(t, m, text, 0, api.ErrMany)
	}
}

func TestParseOfNoBlock(t *testing.T) {
	m := of("x y z")
	for _, s := range []string{"block", "blocks x", "x", "x y", "Block x", "BLOCK x", "bloc x", "block: x", "block, x", ": block x", "block:", "blockx", "block_x", "lock x", "0", "0 block x", "x block", "x block y", "min x", "+ block x", "-", "blockblock x", "blocks", "q", "* x"} {
		wantError(t, m, s, 1, api.ErrForm)
		wantError(t, m, "\n# x\n"+s+"# x\nblock x", 3, api.ErrForm)
		wantError(t, m, "block y\n\nblock x\n"+s+"\nblock q\nblock x", 4, api.ErrForm)
		wantError(t, of(""), s, 1, api.ErrForm)
	}
	// What is behind a # is no other word.
	wantError(t, m, "block # x", 1, api.ErrForm)
	wantError(t, m, "block x\nblock#x", 2, api.ErrForm)
}

func TestParseOfWrongNames(t *testing.T) {
	m := of("x y z")
	for _, s := range []string{
		"q", "x q", "q x", "x y z q", "x q y", "x x", "x y x", "y x x", "x x y", "z z z", "x y z x y z", "block", "x block", "block x",
		"X", "1", "0", "x,", "x, y", "x + y", "-x", "- x", "x:", "_", "x1", "xx", "x/y", "=", "<=", strings.Repeat("x", 17), strings.Repeat("x", 60000), "(x)", "\"x\"", "x y z \"", "x ;", "-1", "0 1",
	} {
		wantError(t, m, "block "+s, 1, api.ErrName)
		wantError(t, m, "# x\n\n  block "+s+"\nblock x\nx", 3, api.ErrName)
	}
	for _, c := range []struct {
		text string
		at   int
	}{
		{"block x\nblock x", 2}, {"block x\nblock y x", 2}, {"block x y\nblock z y", 2}, {"block x\nblock y\nblock x", 3}, {"block x\nblock y\n\nblock z\nblock y", 5}, {"block y z\n\nblock x z", 3},
		{"block x y z\nblock z", 2}, {"block z\nblock x\nblock y z", 3}, {"block x\nblock q", 2}, {"block x\nblock y y", 2}, {"block x\nblock y\nblock z\nblock q", 4}, {"block x\n#\n\n\nblock y q z", 5},
	} {
		wantError(t, m, c.text, c.at, api.ErrName)
		wantError(t, m, c.text+"\nblock\nblock x", c.at, api.ErrName)
	}
	for _, m := range []model.Model{{}, of(""), read("min 0\nx: 0 = 1")} {
		wantError(t, m, "block x", 1, api.ErrName)
		wantError(t, m, "\nblock 0", 2, api.ErrName)
	}
}

// Where more is amiss than one thing.
func TestParseTellsTheFirst(t *testing.T) {
	m := of("x y z")
	for _, c := range []struct {
		text string
		at   int
		e    api.Errno
	}{
		{"blocks q", 1, api.ErrForm}, {"q x x", 1, api.ErrForm}, {"x x\nblock q", 1, api.ErrForm}, {"block q\nblock", 1, api.ErrName}, {"block x x\nx", 1, api.ErrName}, {"block\nblock q", 1, api.ErrForm},
		{"block x\nblock\nblock x", 2, api.ErrForm}, {"block x\nblock x\nblock", 2, api.ErrName}, {"block x\nblocks x x", 2, api.ErrForm}, {"block x\n\nblock y q\nblocks", 3, api.ErrName}, {"block x\nx x q\nblock q\t", 0, api.ErrForm},
		{"block\t" + strings.Repeat(" ", api.MaxText), 0, api.ErrMany}, {"block q\n\t", 0, api.ErrForm}, {"block x\nblock\n" + strings.Repeat("#", api.MaxText), 0, api.ErrMany},
	} {
		wantError(t, m, c.text, c.at, c.e)
	}
	for _, m := range wrongModels() {
		for _, text := range []string{"", "\n", "block x", "block", "block q", "blocks x\nblock x x", "\t", "é", strings.Repeat(" ", api.MaxText+1), strings.Repeat("\t", api.MaxText+1)} {
			wantError(t, m, text, 0, api.ErrArg)
		}
	}
}

// byPatterns is what Parse answers, in another way than the program's own: of each variable the line that it stands in.
func byPatterns(vars []string, text string) (string, int, api.Errno) {
	if len(text) > 65536 {
		return "", 0, api.ErrMany
	}
	if !regexp.MustCompile(`\A[\n -~]*\z`).MatchString(text) {
		return "", 0, api.ErrForm
	}
	where := make([]int, len(vars))
	for k, line := range strings.Split(text, "\n") {
		line = regexp.MustCompile(`#.*`).ReplaceAllString(line, "")
		if strings.Trim(line, " ") == "" {
			continue
		}
		if !regexp.MustCompile(`^ *block +[^ ]`).MatchString(line) {
			return "", k + 1, api.ErrForm
		}
		for _, name := range strings.Fields(line)[1:] {
			place := slices.Index(vars, name)
			if place < 0 || where[place] > 0 {
				return "", k + 1, api.ErrName
			}
			where[place] = k + 1
		}
	}
	var all []string
	for place, line := range where {
		if line == 0 || slices.Contains(where[:place], line) {
			continue
		}
		block := fmt.Sprint(place)
		for more := place + 1; more < len(where); more++ {
			if where[more] == line {
				block += fmt.Sprint(" ", more)
			}
		}
		all = append(all, block)
	}
	return strings.Join(all, "|"), 0, api.OK
}

func likePatterns(t *testing.T, m model.Model, text string) api.Errno {
	t.Helper()
	want, wantAt, wantE := byPatterns(m.Vars, text)
	n, at, e := Parse(m, text)
	if shown(n) != want || at != wantAt || e != wantE {
		t.Fatalf("Parse(%.200q): %q, line %d, error %d, want %q, line %d, error %d", text, shown(n), at, e, want, wantAt, wantE)
	}
	return e
}

// Every text of up to six pieces.
func TestParseOfAllShortTexts(t *testing.T) {
	m := of("x y block")
	pieces := []string{"block ", "x ", " y", "q", "\n", "#", "block x"}
	count := map[api.Errno]int{}
	texts := []string{""}
	for range 6 {
		var longer []string
		for _, text := range texts {
			for _, piece := range pieces {
				longer = append(longer, text+piece)
			}
		}
		texts = longer
		for _, text := range texts {
			count[likePatterns(t, m, text)]++
		}
	}
	if count[api.OK] < 1000 || count[api.ErrForm] < 1000 || count[api.ErrName] < 1000 {
		t.Errorf("the test's own texts are of few kinds: %v", count)
	}
}

// notesText is a text of notes, with some lines or words amiss, now and then.
func (s scatter) notesText(vars []string) string {
	var text strings.Builder
	left := s.mixed(len(vars))
	for len(left) > 0 && s.upTo(8) > 0 {
		word := "block"
		if s.upTo(60) == 0 {
			word = []string{"blocks", "", "x", vars[0]}[s.upTo(4)]
		}
		text.WriteString(strings.Repeat(" ", s.upTo(3)) + word)
		for range min(1+s.upTo(5), len(left)) {
			text.WriteString(strings.Repeat(" ", 1+s.upTo(2)) + vars[left[0]])
			left = left[1:]
		}
		if s.upTo(20) == 0 {
			text.WriteString(" " + []string{"v", "v61", "0", vars[s.upTo(len(vars))], "\t"}[s.upTo(5)])
		}
		text.WriteString(strings.Repeat("\n", 1+s.upTo(2)))
		if s.upTo(5) == 0 {
			text.WriteString("  # block v0 v0\n")
		}
	}
	return text.String()
}

func TestParseOfScattered(t *testing.T) {
	some := source(3)
	count := map[api.Errno]int{}
	for range 3000 {
		m := many(1+some.upTo(60), some.upTo(2))
		count[likePatterns(t, m, some.notesText(m.Vars))]++
	}
	if count[api.OK] < 500 || count[api.ErrForm] < 100 || count[api.ErrName] < 100 {
		t.Errorf("the test's own texts are of few kinds: %v", count)
	}
}

func TestParseOfTheMost(t *testing.T) {
	m := many(60, 60)
	one, apart, back, want := "block", "", "", []string{}
	for k, name := range m.Vars {
		one += " " + name
		apart += "block " + name + "\n"
		back = "block " + name + "\n" + back
		want = append(want, fmt.Sprint(k))
	}
	wantNotes(t, m, one, strings.Join(want, " "))
	wantNotes(t, m, apart, strings.Join(want, "|"))
	wantNotes(t, m, back, strings.Join(want, "|"))
	wantError(t, m, one+" v0", 1, api.ErrName)
	wantError(t, m, one+" v60", 1, api.ErrName)
	wantError(t, m, apart+"block v59", 61, api.ErrName)
	wantError(t, m, apart+"block", 61, api.ErrForm)
	wantError(t, m, strings.Repeat("\n", 65000)+"block", 65001, api.ErrForm)
	wantNotes(t, m, strings.Repeat("\n", 65000)+apart[:9*10], strings.Join(want[:10], "|"))
}

// P9.2, Print

func TestPrint(t *testing.T) {
	m := of("x y z block v_1")
	for text, want := range map[string]string{
		"": "", "0": "block x\n", "4": "block v_1\n", "3": "block block\n", "0 1|2": "block x y\nblock z\n", "0 1 2 3 4": "block x y z block v_1\n", "0|1|2|3|4": "block x\nblock y\nblock z\nblock block\nblock v_1\n",
		"0 4|1 3|2": "block x v_1\nblock y block\nblock z\n", "1 3|2": "block y block\nblock z\n", "0 2": "block x z\n",
	} {
		if got, e := Print(m, blocks(text)); got != want || e != api.OK {
			t.Errorf("Print of %q: %q, error %d, want %q", text, got, e, want)
		}
	}
	for _, m := range []model.Model{{}, of(""), read("min 0\na: 0 = 0"), of("x y"), many(60, 60)} {
		for _, n := range []Notes{{}, {[][]int{}}} {
			if got, e := Print(m, n); got != "" || e != api.OK {
				t.Errorf("Print of no blocks: %q, error %d", got, e)
			}
		}
	}
	backwards := of("z y x")
	if got, e := Print(backwards, blocks("0 2|1")); got != "block z x\nblock y\n" || e != api.OK {
		t.Errorf("Print goes by names: %q, error %d", got, e)
	}
}

func TestPrintOfWhatMayNotBe(t *testing.T) {
	for name, n := range wrongNotes() {
		if got, e := Print(of("x y z"), n); got != "" || e != api.ErrArg {
			t.Errorf("Print, %s: %.90q, error %d", name, got, e)
		}
	}
	for name, m := range wrongModels() {
		for _, n := range []Notes{{}, blocks("0"), blocks("1|0")} {
			if got, e := Print(m, n); got != "" || e != api.ErrArg {
				t.Errorf("Print, %s: %.90q, error %d", name, got, e)
			}
		}
	}
}

// P9.3

func again(t *testing.T, m model.Model, n Notes) {
	t.Helper()
	text, e := Print(m, n)
	if e != api.OK {
		t.Fatalf("Print of %q: error %d", shown(n), e)
	}
	got, at, e := Parse(m, text)
	if e != api.OK || at != 0 || !Same(got, n) || !Same(n, got) || shown(got) != shown(n) {
		t.Fatalf("Parse of what was printed, %q: %q, line %d, error %d, want %q", text, shown(got), at, e, shown(n))
	}
	if twice, e := Print(m, got); e != api.OK || twice != text {
		t.Fatalf("Print of what was printed and parsed: %q, error %d, want %q", twice, e, text)
	}
}

func TestParseOfWhatWasPrinted(t *testing.T) {
	for _, n := range partitions(6) {
		again(t, of("f e d c b a"), n)
		again(t, many(60, 3), n)
	}
	some := source(4)
	for range 1000 {
		m := some.model(some.upTo(61), some.upTo(3))
		again(t, m, some.notes(len(m.Vars)))
	}
	// As long as a text of notes may be: names of 16 bytes, a block for each.
	var long model.Model
	var n Notes
	for k, name := range many(60, 0).Vars {
		long.Vars = append(long.Vars, strings.Repeat("a", api.MaxName-len(name))+name)
		n.Blocks = append(n.Blocks, []int{k})
	}
	long.Cost = many(60, 0).Cost
	again(t, long, n)
}

// However lines and words are mixed, the same comes of them.
func TestParseOfWhatWasPrintedAndMixed(t *testing.T) {
	some := source(5)
	for range 500 {
		m := many(1+some.upTo(60), 0)
		n := some.notes(len(m.Vars))
		text := ""
		for _, k := range some.mixed(len(n.Blocks)) {
			line := "block"
			for _, i := range some.mixed(len(n.Blocks[k])) {
				line += " " + m.Vars[n.Blocks[k][i]]
			}
			text += line + "\n"
		}
		wantNotes(t, m, text, shown(n))
	}
}
