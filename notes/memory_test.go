package notes

import (
	"fmt"
	"slices"
	"strings"
	"testing"

	"offcut/model"
	"offcut/nat"
	"offcut/rat"
	"offcut/whole"
)

const sentinel = 0xdeadbeef

// roomyNotes are notes with more behind the ends of all their lists.
func roomyNotes(n Notes, room int) Notes {
	var all [][]int
	for _, block := range n.Blocks {
		all = append(all, append(slices.Clone(block), slices.Repeat([]int{sentinel}, room)...)[:len(block)])
	}
	for range room {
		all = append(all, []int{sentinel, -1}[:1])
	}
	return Notes{all[:len(n.Blocks)]}
}

// roomyRow is a row with fractions behind its end, and words behind its numbers' ends.
func roomyRow(a []rat.Rat, room int) []rat.Rat {
	digits := func(a nat.Nat) nat.Nat {
		return append(slices.Clone(a), slices.Repeat(nat.Nat{sentinel}, room)...)[:len(a)]
	}
	var all []rat.Rat
	for _, v := range a {
		all = append(all, rat.Rat{Num: whole.Int{Minus: v.Num.Minus, Size: digits(v.Num.Size)}, Den: digits(v.Den)})
	}
	for range room {
		all = append(all, rat.Int(sentinel))
	}
	return all[:len(a)]
}

// roomyModel is a model with more behind the ends of all its lists.
func roomyModel(m model.Model, room int) model.Model {
	vars := append(slices.Clone(m.Vars), slices.Repeat([]string{"behind"}, room)...)
	var rows []model.Row
	for _, r := range m.Rows {
		rows = append(rows, model.Row{Name: r.Name, Coef: roomyRow(r.Coef, room), Rel: r.Rel, B: r.B})
	}
	for range room {
		rows = append(rows, model.Row{Name: "behind", Coef: roomyRow([]rat.Rat{rat.Int(3)}, room), Rel: 7})
	}
	return model.Model{Vars: vars[:len(m.Vars)], Cost: roomyRow(m.Cost, room), Rows: rows[:len(m.Rows)]}
}

// imprint is all that a row has in its memory, the room behind its end and behind its numbers' ends too.
func imprint(a []rat.Rat) string {
	text := fmt.Sprint(len(a), cap(a))
	for _, v := range a[:cap(a)] {
		text += fmt.Sprint(" ", v.Num.Minus, len(v.Num.Size), v.Num.Size[:cap(v.Num.Size)], len(v.Den), v.Den[:cap(v.Den)])
	}
	return text
}

func imprintModel(m model.Model) string {
	text := fmt.Sprintf("%d %q %s %d", len(m.Vars), m.Vars[:cap(m.Vars)], imprint(m.Cost), len(m.Rows))
	for _, r := range m.Rows[:cap(m.Rows)] {
		text += fmt.Sprintf(" %q %s %d %s", r.Name, imprint(r.Coef), r.Rel, imprint([]rat.Rat{r.B}))
	}
	return text
}

func imprintNotes(n Notes) string {
	text := fmt.Sprint(len(n.Blocks), cap(n.Blocks))
	for _, block := range n.Blocks[:cap(n.Blocks)] {
		text += fmt.Sprint(" ", len(block), block[:cap(block)])
	}
	return text
}

// calls are the calls that are handed a model and notes, each with what it answers, as a text; Parse is handed the text of the notes, where it has one.
func calls() map[string]func(m model.Model, n Notes) string {
	return map[string]func(m model.Model, n Notes) string{
		"Right": func(m model.Model, n Notes) string { return fmt.Sprint(Right(m, n)) },
		"Same": func(_ model.Model, n Notes) string {
			return fmt.Sprint(Same(n, n), Same(n, blocks("0 2|1")), Same(blocks("0 2|1"), n))
		},
		"Print": func(m model.Model, n Notes) string { text, e := Print(m, n); return fmt.Sprint(text, e) },
		"Home":  func(m model.Model, n Notes) string { return fmt.Sprint(Home(m, n)) },
		"Rows":  func(m model.Model, n Notes) string { return fmt.Sprint(Rows(m, n)) },
		"Parse": func(m model.Model, n Notes) string {
			text, _ := Print(m, n)
			got, at, e := Parse(m, text)
			_, wrongAt, wrong := Parse(m, text+"block x1 x1")
			return fmt.Sprint(shown(got), at, e, wrongAt, wrong)
		},
	}
}

// withNotes hands over models and notes, those that may be and those that may not.
func withNotes(use func(m model.Model, n Notes)) {
	three := read("min x + y + z\na: x - 1/2 y <= 1\nb: z = 2\nc: 0 = 0\nd: x + z >= 3")
	for _, n := range partitions(3) {
		use(three, n)
		for _, m := range wrongModels() {
			use(m, n)
		}
	}
	for _, n := range wrongNotes() {
		if len(n.Blocks) < 99 && !slices.ContainsFunc(n.Blocks, func(block []int) bool { return len(block) > 99 }) {
			use(three, n)
		}
	}
	some := source(6)
	for range 50 {
		m := some.model(some.upTo(20), some.upTo(20))
		use(m, some.notes(len(m.Vars)))
		use(m, some.notes(len(m.Vars)+1))
	}
}

func TestMemoryOfWhatIsHandedIn(t *testing.T) {
	for name, call := range calls() {
		withNotes(func(m model.Model, n Notes) {
			want := call(m, n)
			for _, room := range []int{1, 3} {
				mine, blocks := roomyModel(m, room), roomyNotes(n, room)
				was, were := imprintModel(mine), imprintNotes(blocks)
				if got := call(mine, blocks); got != want {
					t.Fatalf("%s hangs on the room behind an end: %.90q, want %.90q", name, got, want)
				}
				if imprintModel(mine) != was || imprintNotes(blocks) != were {
					t.Fatalf("%s changes what is handed in: %q", name, shown(n))
				}
			}
		})
	}
}

// Lists that are one, handed in as two blocks, and as two rows.
func TestMemoryOfSharedLists(t *testing.T) {
	for name, call := range calls() {
		list := []int{0, 1, 2, 3}
		coef := []rat.Rat{rat.Int(1), rat.Int(1), rat.Int(0)}
		shared := model.Model{Vars: []string{"x", "y", "z"}, Cost: coef, Rows: []model.Row{{Name: "a", Coef: coef}, {Name: "b", Coef: coef}}}
		apart := read("min x + y + 0 z\na: x + y = 0\nb: x + y = 0")
		for _, c := range [][2]Notes{
			{{[][]int{list[:2], list[2:3]}}, blocks("0 1|2")}, {{[][]int{list[:1], list[1:3]}}, blocks("0|1 2")}, {{[][]int{list[:2], list[:2]}}, blocks("0 1|0 1")}, {{[][]int{list[:2], list[1:3]}}, blocks("0 1|1 2")}, {{[][]int{list[:3]}}, blocks("0 1 2")},
		} {
			was := imprintNotes(c[0])
			if got, want := call(shared, c[0]), call(apart, c[1]); got != want || imprintNotes(c[0]) != was {
				t.Errorf("%s of lists that are one: %q, want %q", name, got, want)
			}
		}
	}
}

// fill writes over all lists of notes, their spare room too, each with a number of its own; it tells whether each list kept what was
// written into it, so that none is shared with another one.
func fill(n Notes) bool {
	all := n.Blocks[:cap(n.Blocks)]
	for k, block := range all {
		for i := range block[:cap(block)] {
			block[:cap(block)][i] = -77 - k
		}
	}
	kept := true
	for k, block := range all {
		for _, at := range block[:cap(block)] {
			kept = kept && at == -77-k
		}
	}
	for k := range all {
		all[k] = []int{sentinel}
	}
	return kept
}

func TestMemoryOfParse(t *testing.T) {
	m := many(60, 2)
	for _, text := range []string{"", "block v0", "block v1 v0", "block v5\nblock v3\nblock v4", "block v9 v8 v7\nblock v1 v2 v3 v4 v5\nblock v0 v10", "block " + lotsOf(0, 60, " "), "block " + lotsOf(0, 20, "\nblock "), "block " + lotsOf(7, 40, " ") + "\nblock " + lotsOf(40, 60, "\nblock ")} {
		was, model := strings.Clone(text), imprintModel(m)
		first, at, e := Parse(m, text)
		second, _, _ := Parse(m, text)
		want := shown(second)
		if at != 0 || e != 0 || want == "" != (text == "") {
			t.Fatalf("Parse(%.90q): %.90q, line %d, error %d", text, want, at, e)
		}
		if !fill(first) {
			t.Errorf("Parse(%.90q): two lists share memory", text)
		}
		if shown(second) != want || text != was || imprintModel(m) != model {
			t.Errorf("Parse(%.90q): an answer shares memory", text)
		}
		// A list that grows writes into no other one.
		for k := range second.Blocks {
			_ = append(second.Blocks[k], sentinel, sentinel, sentinel)
		}
		_ = append(second.Blocks, []int{sentinel})
		if third, _, _ := Parse(m, text); shown(second) != want || shown(third) != want {
			t.Errorf("Parse(%.90q): a list's room is another one's", text)
		}
	}
}

// lotsOf are the variables of a model of many, from one on to another.
func lotsOf(from, to int, between string) string {
	return strings.Join(many(60, 0).Vars[from:to], between)
}

func TestMemoryOfHomeAndRows(t *testing.T) {
	withNotes(func(m model.Model, n Notes) {
		m, n = roomyModel(m, 2), roomyNotes(n, 2)
		was, were := imprintModel(m), imprintNotes(n)
		all := [][]int{Home(m, n), Rows(m, n), Home(m, n), Rows(m, n)}
		want := fmt.Sprint(all[2], all[3])
		for _, list := range all[:2] {
			for k := range list[:cap(list)] {
				list[:cap(list)][k] = sentinel
			}
		}
		if got := fmt.Sprint(all[2], all[3]); got != want || imprintModel(m) != was || imprintNotes(n) != were {
			t.Fatalf("Home and Rows of %q share memory: %s, want %s", shown(n), got, want)
		}
		if got := fmt.Sprint(Home(m, n), Rows(m, n)); got != want {
			t.Fatalf("Home and Rows of %q, after answers were written over: %s, want %s", shown(n), got, want)
		}
	})
}

func TestNilAndEmptyAreTheSame(t *testing.T) {
	two := read("min x + y\na: x + y = 1")
	for name, call := range calls() {
		for _, c := range [][2]Notes{{{}, {[][]int{}}}, {{[][]int{nil}}, {[][]int{{}}}}, {{[][]int{{0}, nil}}, {[][]int{{0}, {}}}}, {{[][]int{nil, {0}}}, {[][]int{{}, {0}}}}} {
			if got, want := call(two, c[0]), call(two, c[1]); got != want {
				t.Errorf("%s tells nil from empty: %q and %q", name, got, want)
			}
			empty := model.Model{Vars: []string{}, Cost: []rat.Rat{}, Rows: []model.Row{}}
			if got, want := call(model.Model{}, c[0]), call(empty, c[1]); got != want {
				t.Errorf("%s tells a nil model from an empty one: %q and %q", name, got, want)
			}
		}
	}
}

// What is answered hangs on no order of a map: the same call tells the same, many times over.
func TestTheSameAgain(t *testing.T) {
	some := source(7)
	for range 8 {
		m := some.model(60, 60)
		n := some.notes(60)
		for name, call := range calls() {
			want := call(m, n)
			for range 60 {
				if got := call(m, n); got != want {
					t.Fatalf("%s of %q, again: %.200q, want %.200q", name, shown(n), got, want)
				}
			}
		}
	}
	m := many(60, 0)
	for _, text := range []string{"block v2 v1\nblock v1 v3 q v2", "block v3 v2 v1\nblock v4 v4\nblock", "block " + lotsOf(0, 60, " ") + "\nblock v7 v9"} {
		_, at, e := Parse(m, text)
		for range 200 {
			if n, gotAt, got := Parse(m, text); gotAt != at || got != e || at != 2 || len(n.Blocks) != 0 {
				t.Fatalf("Parse(%.90q), again: line %d, error %d, want line %d, error %d", text, gotAt, got, at, e)
			}
		}
	}
}
