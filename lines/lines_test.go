package lines

import (
	"fmt"
	"slices"
	"strings"
	"testing"

	"offcut/api"
	"offcut/rat"
)

// The signatures are the document's; these lines do not build with others.
var (
	_ func(string) ([]Line, api.Errno) = All
	_ func(string) bool                = Name
	_ func(string) (rat.Rat, bool)     = Number
	_ func(...string) string           = Join
	_ func([]string, string) int       = Index
	_                                  = struct {
		At    int
		Words []string
	}(Line{})
)

func line(at int, words ...string) Line {
	return Line{at, words}
}

func sameLines(a, b []Line) bool {
	return slices.EqualFunc(a, b, func(x, y Line) bool { return x.At == y.At && slices.Equal(x.Words, y.Words) })
}

// byBytes is the lines of a text, byte by byte, in another way than the program's own.
func byBytes(text string) []Line {
	var all []Line
	at, remark, word := 1, false, ""
	var words []string
	endWord := func() {
		if word != "" {
			words = append(words, word)
		}
		word = ""
	}
	endLine := func() {
		endWord()
		if len(words) > 0 {
			all = append(all, Line{at, words})
		}
		at, remark, words = at+1, false, nil
	}
	for k := range len(text) {
		switch c := text[k]; {
		case c == 10:
			endLine()
		case c == '#':
			remark = true
			endWord()
		case c == 32:
			endWord()
		case !remark:
			word += text[k : k+1]
		}
	}
	endLine()
	return all
}

// P7.1, All

func TestAll(t *testing.T) {
	for _, c := range []struct {
		text string
		want []Line
	}{
		{"a  b # c\nd", []Line{line(1, "a", "b"), line(2, "d")}}, // the chapter's example
		{"a", []Line{line(1, "a")}},
		{"a\n", []Line{line(1, "a")}},
		{"a\n\n", []Line{line(1, "a")}},
		{"\na", []Line{line(2, "a")}},
		{"a\nb", []Line{line(1, "a"), line(2, "b")}},
		{"a\nb\n", []Line{line(1, "a"), line(2, "b")}},
		{"a\n\n \n#x y\n  # \nb\n\nc", []Line{line(1, "a"), line(6, "b"), line(8, "c")}},
		{" a", []Line{line(1, "a")}},
		{"a ", []Line{line(1, "a")}},
		{"   a    bc   def   ", []Line{line(1, "a", "bc", "def")}},
		{"a b \n c d", []Line{line(1, "a", "b"), line(2, "c", "d")}},
		{"#a b\nc", []Line{line(2, "c")}},
		{" #a\nc", []Line{line(2, "c")}},
		{"ab#cd ef\ngh", []Line{line(1, "ab"), line(2, "gh")}},
		{"a b#", []Line{line(1, "a", "b")}},
		{"a b #", []Line{line(1, "a", "b")}},
		{"a b#\nc#\n", []Line{line(1, "a", "b"), line(2, "c")}},
		{"a # b # c\nd ## e\n", []Line{line(1, "a"), line(2, "d")}},
		{"a a a\na", []Line{line(1, "a", "a", "a"), line(2, "a")}},
		{"min x - 2 y\nr: x + y <= 3/2\n", []Line{line(1, "min", "x", "-", "2", "y"), line(2, "r:", "x", "+", "y", "<=", "3/2")}},
		{"~ ! \" $%&'()*+,-./ :;<=>?@ [\\]^_` {|}\nA", []Line{line(1, "~", "!", "\"", "$%&'()*+,-./", ":;<=>?@", "[\\]^_`", "{|}"), line(2, "A")}},
	} {
		if got, e := All(c.text); e != api.OK || !sameLines(got, c.want) {
			t.Errorf("All(%q): %v, error %d, want %v", c.text, got, e, c.want)
		}
	}
}

func TestAllOfTextsWithoutWords(t *testing.T) {
	for _, text := range []string{
		"", "\n", "\n\n\n", " ", "    ", "#", "##", "# ", " #", "#a", "#\n", "\n#", "# a b c\n", " \n ", "\n \n#\n  # x\n", strings.Repeat("\n", api.MaxText), strings.Repeat(" ", api.MaxText), strings.Repeat("#", api.MaxText),
	} {
		if got, e := All(text); e != api.OK || len(got) != 0 {
			t.Errorf("All(%.20q): %v, error %d", text, got, e)
		}
	}
}

// All texts of few signs, each of which means something else.
func TestAllOfEveryShortText(t *testing.T) {
	const signs = "a~ #\n"
	texts := []string{""}
	for from := 0; len(texts[from]) < 7; from++ {
		for k := range len(signs) {
			texts = append(texts, texts[from]+signs[k:k+1])
		}
	}
	for _, text := range texts {
		if got, e := All(text); e != api.OK || !sameLines(got, byBytes(text)) {
			t.Fatalf("All(%q): %v, error %d, want %v", text, got, e, byBytes(text))
		}
	}
}

func TestAllOfLongTexts(t *testing.T) {
	full := func(piece string) string {
		return strings.Repeat(piece, api.MaxText)[:api.MaxText]
	}
	if api.MaxText != 65536 {
		t.Fatalf("MaxText: %d", api.MaxText)
	}
	for _, piece := range []string{"a", "a ", "a\n", "ab c # d\n\n ef", " #\n", "x\n\n", "\nword"} {
		text := full(piece)
		if got, e := All(text); e != api.OK || !sameLines(got, byBytes(text)) {
			t.Errorf("All of 2^16 bytes of %q: %d lines, error %d, want %d", piece, len(got), e, len(byBytes(text)))
		}
		if got, e := All(text[1:]); e != api.OK || !sameLines(got, byBytes(text[1:])) {
			t.Errorf("All of one byte less than 2^16 of %q: %d lines, error %d", piece, len(got), e)
		}
		for _, more := range []string{"a", " ", "\n", "#", "\t", piece, text} {
			if got, e := All(text + more); e != api.ErrMany || len(got) != 0 {
				t.Errorf("All of 2^16 bytes of %q, and %d more: %d lines, error %d", piece, len(more), len(got), e)
			}
		}
	}
	if got, _ := All(full("a\n")); len(got) != api.MaxText/2 || got[len(got)-1].At != api.MaxText/2 {
		t.Errorf("All of 2^15 lines: %d", len(got))
	}
	if got, _ := All(full("a ")); len(got) != 1 || len(got[0].Words) != api.MaxText/2 {
		t.Errorf("All of 2^15 words: %d lines", len(got))
	}
	if got, _ := All(full("\n")[1:] + "a"); !sameLines(got, []Line{line(api.MaxText, "a")}) {
		t.Errorf("All of a word behind 2^16 - 1 bytes 10: %v", got)
	}
}

// around is a text with a piece at a place of each kind.
func around(piece string) []string {
	return []string{
		piece, piece + "a", "a" + piece, "a" + piece + "b", "a " + piece + " b", " " + piece, piece + " ", piece + "\n", "\n" + piece, "a\n" + piece + "\nb",
		"#" + piece, "a # b" + piece, "a # b" + piece + "\nc", piece + "#", "a b\n# " + piece + " c\nd", "a\n\n" + piece, strings.Repeat("a b\n", 1000) + piece,
	}
}

func TestAllOfEveryByte(t *testing.T) {
	for c := range 256 {
		for _, text := range around(string([]byte{byte(c)})) {
			got, e := All(text)
			if c == 10 || c >= 32 && c <= 126 {
				if e != api.OK || !sameLines(got, byBytes(text)) {
					t.Fatalf("All(%.20q): %v, error %d, want %v", text, got, e, byBytes(text))
				}
			} else if e != api.ErrForm || len(got) != 0 {
				t.Fatalf("All(%.20q): %v, error %d, want ErrForm", text, got, e)
			}
		}
	}
}

func TestAllOfWrongBytes(t *testing.T) {
	for _, piece := range []string{
		"\t", "\r", "\r\n", "\v", "\f", "\x00", "\x1b[0m", "\x1f", "\x7f", "\x80", "\xff", "\u0080", "\u0085", "\u00a0", "é", "٣", "а", "\u2028", "\u3000", "￿", "\ufffd", "\ufeff", "😀",
		"\xc3", "\xa9", "\xc3a", "\xe2\x82", "\xf0\x9f\x98", "\xc0\x8a", "\xc1\xa1", "\xe0\x80\x8a", "\xed\xa0\x80", "\xf4\x90\x80\x80", "\xc3\xa9\xa9",
	} {
		for _, text := range around(piece) {
			if got, e := All(text); e != api.ErrForm || len(got) != 0 {
				t.Errorf("All(%.20q): %v, error %d, want ErrForm", text, got, e)
			}
		}
	}
	for _, place := range []int{0, 1, 1 << 8, 1 << 15, api.MaxText - 1} {
		for _, c := range []byte{9, 13, 127, 128, 255} {
			text := []byte(strings.Repeat("a", api.MaxText))
			text[place] = c
			if got, e := All(string(text)); e != api.ErrForm || len(got) != 0 {
				t.Errorf("All of 2^16 bytes, a byte %d at %d: error %d", c, place, e)
			}
		}
	}
}

// That there are too many bytes is said ahead of a byte that may not be.
func TestFirstError(t *testing.T) {
	long := strings.Repeat("a", api.MaxText)
	for _, text := range []string{long + "\t", "\t" + long, "\xff" + long, long[1:] + "é", strings.Repeat("\x00", api.MaxText+1), strings.Repeat("é", api.MaxText), "#\r" + long} {
		if got, e := All(text); e != api.ErrMany || len(got) != 0 {
			t.Errorf("All of %d bytes, %.5q first: %d lines, error %d, want ErrMany", len(text), text, len(got), e)
		}
	}
	// As many signs as there may be bytes, or fewer, are too many bytes all the same; fewer bytes are not.
	if _, e := All(strings.Repeat("é", api.MaxText/2)); e != api.ErrForm {
		t.Errorf("All of 2^15 signs of two bytes: error %d", e)
	}
}

func TestOneAnswer(t *testing.T) {
	const text = "b a # x\n\n a b\n"
	want, _ := All(text)
	for range 10 {
		if got, e := All(strings.Clone(text)); e != api.OK || !sameLines(got, want) {
			t.Fatalf("All, again: %v, error %d", got, e)
		}
	}
}

// What was joined is split again, and lines are numbered as they were.
func TestAllOfWhatWasJoined(t *testing.T) {
	var text strings.Builder
	var want []Line
	for k := range 200 {
		var words []string
		for i := range k % 7 {
			words = append(words, fmt.Sprintf("w%d:%d", k, i))
		}
		text.WriteString(Join(words...) + "\n")
		if len(words) > 0 {
			want = append(want, Line{k + 1, words})
		}
	}
	if got, e := All(text.String()); e != api.OK || !sameLines(got, want) {
		t.Errorf("All of joined words: %v, error %d", got, e)
	}
}
