package model

import (
	"fmt"
	"slices"
	"strings"
	"testing"

	"offcut/nat"
	"offcut/rat"
	"offcut/vec"
	"offcut/whole"
)

const sentinel = 0xdeadbeef

// digits is a number with room behind its end.
func digits(a nat.Nat, room int) nat.Nat {
	all := slices.Clone(a)
	for range room {
		all = append(all, sentinel)
	}
	return all[:len(a)]
}

func roomy(a rat.Rat, room int) rat.Rat {
	return rat.Rat{Num: whole.Int{Minus: a.Num.Minus, Size: digits(a.Num.Size, room)}, Den: digits(a.Den, room)}
}

// roomyRow is a row with fractions behind its end, too.
func roomyRow(a []rat.Rat, room int) []rat.Rat {
	var all []rat.Rat
	for _, v := range a {
		all = append(all, roomy(v, room))
	}
	for range room {
		all = append(all, roomy(rat.Int(sentinel), room))
	}
	return all[:len(a)]
}

// roomyModel is a model with more behind the ends of all its lists.
func roomyModel(m Model, room int) Model {
	all := Model{append(slices.Clone(m.Vars), slices.Repeat([]string{"behind"}, room)...), roomyRow(m.Cost, room), nil}
	for _, r := range m.Rows {
		all.Rows = append(all.Rows, Row{r.Name, roomyRow(r.Coef, room), r.Rel, roomy(r.B, room)})
	}
	for range room {
		all.Rows = append(all.Rows, Row{"behind", roomyRow(vec.Ints(1, 2), room), 7, roomy(rat.Int(sentinel), room)})
	}
	return Model{all.Vars[:len(m.Vars)], all.Cost, all.Rows[:len(m.Rows)]}
}

// imprint is all that a row has in its memory, the room behind its end and behind its numbers' ends too.
func imprint(a []rat.Rat) string {
	text := fmt.Sprint(len(a), cap(a))
	for _, v := range a[:cap(a)] {
		text += fmt.Sprint(" ", v.Num.Minus, len(v.Num.Size), v.Num.Size[:cap(v.Num.Size)], len(v.Den), v.Den[:cap(v.Den)])
	}
	return text
}

func imprintModel(m Model) string {
	text := fmt.Sprintf("%d %q %s %d", len(m.Vars), m.Vars[:cap(m.Vars)], imprint(m.Cost), len(m.Rows))
	for _, r := range m.Rows[:cap(m.Rows)] {
		text += fmt.Sprintf(" %q %s %d %s", r.Name, imprint(r.Coef), r.Rel, imprint([]rat.Rat{r.B}))
	}
	return text
}

// lists is all lists of fractions of a model, with their spare room.
func lists(m Model) [][]rat.Rat {
	all := [][]rat.Rat{m.Cost[:cap(m.Cost)]}
	for _, r := range m.Rows[:cap(m.Rows)] {
		all = append(all, r.Coef[:cap(r.Coef)])
	}
	return all
}

// fill writes over all lists of a model, their spare room too, each with a number of its own; of the numbers' own words, that may be
// shared, only over the room behind them. It tells whether each list kept what was written into it, so that none is shared with another one.
func fill(m Model) bool {
	all := lists(m)
	for k, list := range all {
		for i, v := range list {
			for _, row := range []nat.Nat{v.Num.Size, v.Den} {
				for place := len(row); place < cap(row); place++ {
					row[:cap(row)][place] = 0xa5a5a5a5
				}
			}
			list[i] = rat.Int(-77 - k)
		}
	}
	for k, list := range all {
		if slices.ContainsFunc(list, func(v rat.Rat) bool { return rat.Compare(v, rat.Int(-77-k)) != 0 }) {
			return false
		}
	}
	for k := range m.Vars[:cap(m.Vars)] {
		m.Vars[:cap(m.Vars)][k] = "written over"
	}
	for k := range m.Rows[:cap(m.Rows)] {
		m.Rows[:cap(m.Rows)][k] = Row{Name: "written over"}
	}
	return true
}

// calls are the calls that are handed models, each with what it answers, as a text.
func calls() map[string]func(m Model, x []rat.Rat) string {
	return map[string]func(m Model, x []rat.Rat) string{
		"Right":    func(m Model, _ []rat.Rat) string { return fmt.Sprint(Right(m)) },
		"Print":    func(m Model, _ []rat.Rat) string { text, e := Print(m); return fmt.Sprint(text, e) },
		"Same":     func(m Model, _ []rat.Rat) string { return fmt.Sprint(Same(m, m), Same(m, three()), Same(three(), m)) },
		"Feasible": func(m Model, x []rat.Rat) string { return fmt.Sprint(Feasible(m, x)) },
		"Value":    func(m Model, x []rat.Rat) string { return rat.Text(Value(m, x)) },
	}
}

// withModels hands over models that may be and some that may not, each with numbers.
func withModels(use func(m Model, x []rat.Rat)) {
	for _, all := range []map[string]Model{rights(), wrongs()} {
		for _, m := range all {
			if len(m.Vars) <= 61 && len(m.Rows) <= 61 && len(m.Cost) <= 61 && len(m.Vars)*len(m.Rows) < 2000 {
				use(m, vec.Ints(make([]int, len(m.Vars))...))
			}
		}
	}
	some := source(4)
	for range 200 {
		m := some.anyModel()
		use(m, some.row(len(m.Vars), some.atLeast(-1)))
	}
}

func TestMemoryOfWhatIsHandedIn(t *testing.T) {
	for name, call := range calls() {
		withModels(func(m Model, x []rat.Rat) {
			want := call(m, x)
			for _, room := range []int{1, 3} {
				mine, numbers := roomyModel(m, room), roomyRow(x, room)
				was, were := imprintModel(mine), imprint(numbers)
				if got := call(mine, numbers); got != want {
					t.Fatalf("%s hangs on the room behind an end: %.90q, want %.90q", name, got, want)
				}
				if imprintModel(mine) != was || imprint(numbers) != were {
					t.Fatalf("%s changes what is handed in: %s", name, shown(m))
				}
			}
		})
	}
}

// The same lists as variables of two models, as costs, as all rows, and as numbers.
func TestMemoryOfSharedLists(t *testing.T) {
	for name, call := range calls() {
		all := roomyRow(vec.Ints(1, 0, 2), 2)
		m := Model{[]string{"x", "y", "z"}, all, []Row{{"a", all, -1, one("5")}, {"b", all, 0, all[2]}, {"c", all, 1, all[0]}}}
		was := imprintModel(m)
		apart := Model{[]string{"x", "y", "z"}, row("1 0 2"), []Row{{"a", row("1 0 2"), -1, one("5")}, {"b", row("1 0 2"), 0, one("2")}, {"c", row("1 0 2"), 1, one("1")}}}
		if got, want := call(m, all), call(apart, row("1 0 2")); got != want || imprintModel(m) != was {
			t.Errorf("%s of lists that are one: %q, want %q", name, got, want)
		}
	}
}

// Two answers of Value share no list, nor do an answer and what was handed in.
func TestMemoryOfValue(t *testing.T) {
	m, x := roomyModel(three(), 3), roomyRow(row("2 0 7"), 3)
	was, were := imprintModel(m), imprint(x)
	first, second := Value(m, x), Value(m, x)
	want := rat.Text(second)
	for _, list := range []nat.Nat{first.Num.Size, first.Den} {
		for k := len(list); k < cap(list); k++ {
			list[:cap(list)][k] = 0xa5a5a5a5
		}
	}
	if rat.Text(second) != want || want != "6" || imprintModel(m) != was || imprint(x) != were {
		t.Errorf("Value shares memory: %s, want %s", rat.Text(second), want)
	}
}

func TestMemoryOfParse(t *testing.T) {
	for _, text := range []string{
		"min 0", "min x", "min x - 2 y\nr: x + y <= 3/2", "min 0\na: 0 = 0\nb: 0 = 0\nc: 0 = 0", "min 0 x + 0 y\na: 0 = 1\nb: 0 = 0\nc: 0 x + 0 y = 0\nd: z = 1",
		"min " + sum(0, 60) + "\n" + lots(0, 60), "min 0\n" + lots(0, 33) + "a: " + sum(0, 37) + " = 1",
	} {
		was := strings.Clone(text)
		first, _, _ := Parse(text)
		second, _, _ := Parse(text)
		want := shown(second)
		if !fill(first) {
			t.Errorf("Parse(%.90q): two lists share memory", text)
		}
		if shown(second) != want || text != was {
			t.Errorf("Parse(%.90q): two answers share memory", text)
		}
		// A list that grows writes into no other one.
		_ = append(second.Vars, "one", "more")
		_ = append(second.Cost, rat.Int(-1), rat.Int(-2))
		_ = append(second.Rows, Row{}, Row{})
		for _, r := range second.Rows {
			_ = append(r.Coef, rat.Int(-1), rat.Int(-2), rat.Int(-3))
		}
		if shown(second) != want {
			t.Errorf("Parse(%.90q): a list's room is another one's", text)
		}
		if third, _, _ := Parse(text); shown(third) != want {
			t.Errorf("Parse(%.90q), after answers were written over: %s, want %s", text, shown(third), want)
		}
	}
}

func TestNilAndEmptyAreTheSame(t *testing.T) {
	for name, call := range calls() {
		for _, c := range [][2]Model{
			{{}, {[]string{}, []rat.Rat{}, []Row{}}},
			{{Rows: []Row{{"a", nil, 0, one("0")}}}, {[]string{}, []rat.Rat{}, []Row{{"a", []rat.Rat{}, 0, one("0")}}}},
			{changed(func(m *Model) { m.Rows = nil }), changed(func(m *Model) { m.Rows = []Row{} })},
			{changed(func(m *Model) { m.Rows[1].Coef = nil }), changed(func(m *Model) { m.Rows[1].Coef = []rat.Rat{} })},
			{changed(func(m *Model) { m.Cost = nil }), changed(func(m *Model) { m.Cost = []rat.Rat{} })},
			{changed(func(m *Model) { m.Vars = nil }), changed(func(m *Model) { m.Vars = []string{} })},
		} {
			for _, x := range [][]rat.Rat{nil, {}, row("1 2 3")} {
				if call(c[0], x) != call(c[1], x) {
					t.Errorf("%s tells nil from empty: %q and %q", name, call(c[0], x), call(c[1], x))
				}
			}
			if call(c[0], nil) != call(c[0], []rat.Rat{}) {
				t.Errorf("%s tells no numbers from an empty list", name)
			}
		}
	}
	for _, m := range []Model{{}, {[]string{}, []rat.Rat{}, []Row{}}} {
		if !Right(m) || !Same(m, Model{}) || !Feasible(m, nil) || rat.Text(Value(m, nil)) != "0" {
			t.Errorf("a model of nothing: %v %v %v", Right(m), Same(m, Model{}), Feasible(m, nil))
		}
	}
}
