package model

import (
	"slices"
	"strings"
	"testing"

	"offcut/api"
	"offcut/rat"
	"offcut/vec"
	"offcut/whole"
)

// P8.2, Print

func TestPrint(t *testing.T) {
	for _, c := range []struct {
		m    Model
		want string
	}{
		{Model{}, "min 0\n"},
		{Model{[]string{}, []rat.Rat{}, []Row{}}, "min 0\n"},
		{three(), "min 3 x - 1/2 y_1 + 0 z2\ncap: 1 x + 1 y_1 <= 4\nall: 0 = 0\nx: - 1 x + 2/3 z2 >= -7/2\n"},
		{Model{[]string{"x"}, row("1"), nil}, "min 1 x\n"},
		{Model{[]string{"x"}, row("-1"), nil}, "min - 1 x\n"},
		{Model{[]string{"x"}, row("0"), nil}, "min 0 x\n"},
		{Model{[]string{"x"}, row("-5/7"), nil}, "min - 5/7 x\n"},
		{Model{[]string{"x"}, row("12345678901234567890123/2"), nil}, "min 12345678901234567890123/2 x\n"},
		{Model{[]string{"x", "y"}, row("1 -2"), []Row{{"r", row("1 1"), -1, one("3/2")}}}, "min 1 x - 2 y\nr: 1 x + 1 y <= 3/2\n"},
		{Model{[]string{"x", "y", "z"}, row("0 0 0"), nil}, "min 0 x + 0 y + 0 z\n"},
		{Model{[]string{"x", "y", "z"}, row("-1 -1 -1"), nil}, "min - 1 x - 1 y - 1 z\n"},
		{Model{[]string{"x", "y", "z"}, row("0 -1 0"), nil}, "min 0 x - 1 y + 0 z\n"},
		{Model{[]string{"z", "y", "x"}, row("3 1 2"), nil}, "min 3 z + 1 y + 2 x\n"},
		{Model{[]string{"min", "x"}, row("1 1"), []Row{{"min", row("0 1"), 0, one("1")}}}, "min 1 min + 1 x\nmin: 1 x = 1\n"},
		{Model{nil, nil, []Row{{"a", nil, -1, one("1")}, {"b", nil, 0, one("0")}, {"c", nil, 1, one("-1")}}}, "min 0\na: 0 <= 1\nb: 0 = 0\nc: 0 >= -1\n"},
		{Model{[]string{"x"}, row("2"), []Row{{"a", row("0"), 0, one("1")}}}, "min 2 x\na: 0 = 1\n"},
		{Model{[]string{"x", "y"}, row("0 0"), []Row{{"a", row("0 0"), 1, one("-6/4")}}}, "min 0 x + 0 y\na: 0 >= -3/2\n"},
		{Model{[]string{"x", "y", "z"}, row("1 1 1"), []Row{{"a", row("0 -2 0"), 1, one("0")}, {"b", row("0 1 -1/2"), 0, one("7")}, {"c", row("-1 0 -1"), -1, one("1/3")}, {"d", row("0 0 4"), -1, one("-2")}}},
			"min 1 x + 1 y + 1 z\na: - 2 y >= 0\nb: 1 y - 1/2 z = 7\nc: - 1 x - 1 z <= 1/3\nd: 4 z <= -2\n"},
		{Model{[]string{strings.Repeat("a", 16)}, row("1"), []Row{{strings.Repeat("b", 16), row("1"), 0, one("1")}}}, "min 1 aaaaaaaaaaaaaaaa\nbbbbbbbbbbbbbbbb: 1 aaaaaaaaaaaaaaaa = 1\n"},
	} {
		if got, e := Print(c.m); e != api.OK || got != c.want {
			t.Errorf("Print of %s: %q, error %d, want %q", shown(c.m), got, e, c.want)
		}
		if got, e := Print(allOtherwise(c.m)); e != api.OK || got != c.want {
			t.Errorf("Print of %s, told otherwise: %q, error %d", shown(c.m), got, e)
		}
	}
	if got, e := Print(Model{[]string{"x", "y"}, []rat.Rat{{}, {Num: whole.Int{Minus: true}}}, []Row{{Name: "r", Coef: []rat.Rat{{}, {Num: whole.Int{Minus: true}}}}}}); e != api.OK || got != "min 0 x + 0 y\nr: 0 = 0\n" {
		t.Errorf("Print of zero fractions, and of a 0 with Minus: %q, error %d", got, e)
	}
}

func TestPrintOfWhatMayNotBe(t *testing.T) {
	for name, m := range wrongs() {
		if got, e := Print(m); e != api.ErrArg || got != "" {
			t.Errorf("Print, %s: %.90q, error %d", name, got, e)
		}
	}
	for name, m := range rights() {
		if _, e := Print(m); e != api.OK {
			t.Errorf("Print, %s: error %d", name, e)
		}
	}
}

// P8.3

func again(t *testing.T, m Model) {
	t.Helper()
	text, e := Print(m)
	if e != api.OK {
		t.Fatalf("Print of %s: error %d", shown(m), e)
	}
	got, at, e := Parse(text)
	if e != api.OK || at != 0 || !Same(got, m) || !Same(m, got) || shown(got) != shown(m) {
		t.Fatalf("Parse of what was printed, %q: %s, line %d, error %d, want %s", text, shown(got), at, e, shown(m))
	}
	if twice, e := Print(got); e != api.OK || twice != text {
		t.Fatalf("Print of what was printed and parsed: %q, error %d, want %q", twice, e, text)
	}
}

func TestParseOfWhatWasPrinted(t *testing.T) {
	for _, m := range rights() {
		again(t, m)
	}
	some := source(3)
	for range 2000 {
		again(t, some.rightModel(some.upTo(6), some.upTo(6)))
	}
	for _, long := range []int{59, 60} {
		again(t, some.rightModel(long, 3))
		again(t, some.rightModel(3, long))
	}
	most := strings.Repeat("9", api.MaxDigit)
	again(t, Model{[]string{"x", "y"}, row("-" + most + " 1/" + most), []Row{{"r", row(most + " -1/" + most), 0, one("-" + most)}}})
}

// As long as a text may be: 60 of both, with all their numbers.
func TestParseOfTheMostThatWasPrinted(t *testing.T) {
	m := many(60, 60)
	for k := range m.Rows {
		for i := range m.Vars {
			m.Rows[k].Coef[i] = rat.Int((k*31+i*17)%19 - 9)
		}
	}
	again(t, m)
	if text, _ := Print(m); len(text) > api.MaxText {
		t.Errorf("the test's own model has too long a text: %d", len(text))
	}
}

// What was parsed, printed, and parsed is the same; a text that Print would write is written again.
func TestPrintOfWhatWasParsed(t *testing.T) {
	for _, text := range []string{
		"min 0", "min x - 2 y\nr: x + y <= 3/2", "# a\n\nmin - x\n\nb: 2 y + 0 z <= -0 # c\nq: z - x = 6/4", "min 0 x\na: 0 = 0\nb: 0 >= 1\n", "min 0\na: c + b - a >= 1\nb: d = 2", "min " + sum(0, 60) + "\n" + lots(0, 60),
	} {
		m, _, e := Parse(text)
		if e != api.OK {
			t.Fatalf("Parse(%.90q): error %d", text, e)
		}
		again(t, m)
	}
	for _, text := range []string{"min 0\n", "min 3 x - 1/2 y + 0 z\nr: 1 x + 1 y <= 4\ns: 0 = -1/2\nt: - 2 z >= 0\n"} {
		m, _, _ := Parse(text)
		if got, e := Print(m); e != api.OK || got != text {
			t.Errorf("Print of what was parsed: %q, error %d, want %q", got, e, text)
		}
	}
}

// That a variable stands in rows alone, in another order than by its name, is kept.
func TestPrintKeepsTheOrder(t *testing.T) {
	m, _, _ := Parse("min b\nr: z + a >= 1\ns: y + b + a <= 2")
	if !slices.Equal(m.Vars, []string{"b", "z", "a", "y"}) {
		t.Fatalf("Parse: %v", m.Vars)
	}
	text, e := Print(m)
	if want := "min 1 b + 0 z + 0 a + 0 y\nr: 1 z + 1 a >= 1\ns: 1 b + 1 a + 1 y <= 2\n"; e != api.OK || text != want {
		t.Errorf("Print: %q, error %d, want %q", text, e, want)
	}
	again(t, m)
}

// How long a text may be is asked by Parse alone: Print writes every model that may be.
func TestPrintOfLongTexts(t *testing.T) {
	m := many(60, 60)
	long := one("1" + strings.Repeat("0", 30) + "/" + strings.Repeat("3", 30))
	for k := range m.Rows {
		m.Rows[k].Coef = vec.Scale(vec.Ints(slices.Repeat([]int{1}, 60)...), long)
	}
	text, e := Print(m)
	if e != api.OK || len(text) <= api.MaxText || strings.Count(text, "\n") != 61 || strings.Count(text, " "+rat.Text(long)+" ") != 3600 {
		t.Errorf("Print of a long text: %d bytes, error %d", len(text), e)
	}
}

func TestPrintAgain(t *testing.T) {
	want, _ := Print(three())
	for range 20 {
		if got, e := Print(three()); e != api.OK || got != want {
			t.Fatalf("Print, again: %q, error %d", got, e)
		}
	}
	for k := range 3 {
		m := changed(func(m *Model) { m.Rows = m.Rows[k:] })
		if got, _ := Print(m); !strings.HasSuffix(want, got[strings.Index(got, "\n"):]) || strings.Count(got, "\n") != 4-k {
			t.Errorf("Print, without %d rows: %q", k, got)
		}
	}
}
