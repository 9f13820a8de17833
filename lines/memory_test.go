package lines

import (
	"fmt"
	"slices"
	"strings"
	"testing"

	"offcut/nat"
	"offcut/rat"
)

// roomyWords is a list with words behind its end.
func roomyWords(words ...string) []string {
	return append(slices.Clone(words), "behind", "the end")[: len(words) : len(words)+2]
}

// What is handed in stays, the room behind its end too.
func TestMemoryOfWhatIsHandedIn(t *testing.T) {
	for _, words := range [][]string{nil, {""}, {"a"}, {"a", "b"}, {"b", "a", "b", "c d", ""}} {
		l := roomyWords(words...)
		was := slices.Clone(l[:cap(l)])
		Join(l...)
		for _, s := range was {
			Index(l, s)
		}
		if len(l) != len(words) || !slices.Equal(l[:cap(l)], was) {
			t.Errorf("Join or Index changes its list: %q, was %q", l[:cap(l)], was)
		}
	}
}

// The room behind a list's end is none of its words.
func TestRoomIsNotRead(t *testing.T) {
	l := roomyWords("a", "b")
	if got := Join(l...); got != "a b" {
		t.Errorf("Join reads behind its list's end: %q", got)
	}
	if got := Index(l, "behind"); got != -1 {
		t.Errorf("Index reads behind its list's end: %d", got)
	}
}

// What Join told stays as it is, when its words are written over.
func TestJoinKeepsNothing(t *testing.T) {
	for _, words := range [][]string{{"a"}, {"a", "b", "c"}} {
		l := slices.Clone(words)
		got := Join(l...)
		want := strings.Clone(got)
		for k := range l {
			l[k] = "written over"
		}
		if got != want {
			t.Errorf("Join keeps its list: %q, was %q", got, want)
		}
	}
}

// fill writes over all lists of an answer, their spare room too, each with a word of its own.
// It tells whether each list kept what was written into it, so that none is shared with another one.
func fill(all []Line) bool {
	for k, l := range all {
		for i := range l.Words[:cap(l.Words)] {
			l.Words[:cap(l.Words)][i] = fmt.Sprint("list ", k)
		}
	}
	for k, l := range all {
		for _, s := range l.Words[:cap(l.Words)] {
			if s != fmt.Sprint("list ", k) {
				return false
			}
		}
	}
	for k := range all[:cap(all)] {
		all[:cap(all)][k] = line(-77, "written over")
	}
	return true
}

func TestMemoryOfAll(t *testing.T) {
	for _, text := range []string{
		"", "a", "a\n", "a b c\nd e f\ng\nh i # j\nk l m n o", "a\na\na\na a\na a", strings.Repeat("a b c\n", 100), strings.Repeat("x ", 33) + "\n" + strings.Repeat("x ", 33),
	} {
		was := strings.Clone(text)
		want := byBytes(text)
		first, _ := All(text)
		second, _ := All(text)
		if !fill(first) {
			t.Errorf("All(%.20q): the words of two lines share memory", text)
		}
		if !sameLines(second, want) {
			t.Errorf("All(%.20q): two answers share memory: %v", text, second)
		}
		// A line that grows writes into no other one.
		for k := range second {
			_ = append(second[k].Words, "one", "more", "word")
		}
		if !sameLines(second, want) || text != was {
			t.Errorf("All(%.20q): a line's room is another one's: %v", text, second)
		}
		if third, _ := All(text); !sameLines(third, want) {
			t.Errorf("All(%.20q), after answers were written over: %v", text, third)
		}
	}
}

// Numbers' own words may be shared, but not the room behind them.
func TestMemoryOfNumber(t *testing.T) {
	for _, s := range []string{"0", "-7", "6/4", "x", "", "1/0", "123456789012345678901234567890/7"} {
		first, is := Number(s)
		second, _ := Number(s)
		want := rat.Text(second)
		for _, row := range []nat.Nat{first.Num.Size, first.Den} {
			for k := range row[:cap(row)] {
				row[:cap(row)][k] = 0xa5a5a5a5
			}
		}
		if third, again := Number(s); rat.Text(second) != want || rat.Text(third) != want || again != is {
			t.Errorf("Number(%q): two answers share memory", s)
		}
	}
}
