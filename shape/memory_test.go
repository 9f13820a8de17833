package shape

import (
	"fmt"
	"slices"
	"testing"

	"offcut/api"
	"offcut/model"
	"offcut/nat"
	"offcut/rat"
	"offcut/vec"
	"offcut/whole"
)

const sentinel = 0xdeadbeef

// roomy is a fraction whose numbers have room behind their ends.
func roomy(a rat.Rat, room int) rat.Rat {
	digits := func(a nat.Nat) nat.Nat {
		return append(slices.Clone(a), slices.Repeat(nat.Nat{sentinel}, room)...)[:len(a)]
	}
	return rat.Rat{Num: whole.Int{Minus: a.Num.Minus, Size: digits(a.Num.Size)}, Den: digits(a.Den)}
}

// roomyRow is a row with fractions behind its end, too.
func roomyRow(a []rat.Rat, room int) []rat.Rat {
	var all []rat.Rat
	for _, v := range a {
		all = append(all, roomy(v, room))
	}
	for range room {
		all = append(all, roomy(rat.Int(sentinel), room))
	}
	return all[:len(a)]
}

// roomyProblem is a problem with more behind the ends of all its lists.
func roomyProblem(p Problem, room int) Problem {
	var rows [][]rat.Rat
	for _, a := range p.A {
		rows = append(rows, roomyRow(a, room))
	}
	for range room {
		rows = append(rows, roomyRow(vec.Ints(1, 2), room))
	}
	return Problem{rows[:len(p.A)], roomyRow(p.B, room), roomyRow(p.C, room)}
}

// roomyModel is a model with more behind the ends of all its lists.
func roomyModel(m model.Model, room int) model.Model {
	vars := append(slices.Clone(m.Vars), slices.Repeat([]string{"behind"}, room)...)
	var rows []model.Row
	for _, r := range m.Rows {
		rows = append(rows, model.Row{Name: r.Name, Coef: roomyRow(r.Coef, room), Rel: r.Rel, B: roomy(r.B, room)})
	}
	for range room {
		rows = append(rows, model.Row{Name: "behind", Coef: roomyRow(vec.Ints(1, 2), room), Rel: 7, B: rat.Int(sentinel)})
	}
	return model.Model{Vars: vars[:len(m.Vars)], Cost: roomyRow(m.Cost, room), Rows: rows[:len(m.Rows)]}
}

// imprint is all that a row has in its memory, the room behind its end and behind its numbers' ends too.
func imprint(a []rat.Rat) string {
	text := fmt.Sprint(len(a), cap(a))
	for _, v := range a[:cap(a)] {
		text += fmt.Sprint(" ", v.Num.Minus, len(v.Num.Size), v.Num.Size[:cap(v.Num.Size)], len(v.Den), v.Den[:cap(v.Den)])
	}
	return text
}

func imprintProblem(p Problem) string {
	text := fmt.Sprint(imprint(p.B), imprint(p.C), len(p.A), cap(p.A))
	for _, a := range p.A[:cap(p.A)] {
		text += "; " + imprint(a)
	}
	return text
}

func imprintModel(m model.Model) string {
	text := fmt.Sprintf("%d %q %s %d", len(m.Vars), m.Vars[:cap(m.Vars)], imprint(m.Cost), len(m.Rows))
	for _, r := range m.Rows[:cap(m.Rows)] {
		text += fmt.Sprintf(" %q %s %d %s", r.Name, imprint(r.Coef), r.Rel, imprint([]rat.Rat{r.B}))
	}
	return text
}

// given is what a call may be handed.
type given struct {
	m    model.Model
	p    Problem
	x    []rat.Rat
	k    int
	cost rat.Rat
}

func (g given) roomy(room int) given {
	return given{roomyModel(g.m, room), roomyProblem(g.p, room), roomyRow(g.x, room), g.k, roomy(g.cost, room)}
}

func (g given) imprint() string {
	return imprintModel(g.m) + imprintProblem(g.p) + imprint(g.x) + imprint([]rat.Rat{g.cost})
}

// answer is what a call tells: lists of fractions, or a problem, and what it is told beside.
type answer struct {
	p    Problem
	row  []rat.Rat
	said string
}

func (a answer) shown() string {
	return shown(a.p) + "; " + told(a.row) + "; " + a.said
}

// calls are the calls, each with what it answers.
func calls() map[string]func(g given) answer {
	return map[string]func(g given) answer{
		"Right":  func(g given) answer { return answer{said: fmt.Sprint(Right(g.p))} },
		"Does":   func(g given) answer { return answer{said: fmt.Sprint(Does(g.p, g.x))} },
		"Column": func(g given) answer { return answer{row: Column(g.p, g.k)} },
		"With": func(g given) answer {
			p, is := With(g.p, g.x, g.cost)
			return answer{p: p, said: fmt.Sprint(is)}
		},
		"Of": func(g given) answer {
			p, e := Of(g.m)
			return answer{p: p, said: fmt.Sprint(e)}
		},
		"Back": func(g given) answer { return answer{row: Back(g.m, g.x)} },
		"Slack": func(g given) answer {
			x, is := Slack(g.m, g.x)
			return answer{row: x, said: fmt.Sprint(is)}
		},
	}
}

// size is how many numbers and rows a problem has.
func size(p Problem) int {
	all := len(p.A) + len(p.B) + len(p.C)
	for _, a := range p.A {
		all += len(a)
	}
	return all
}

// withGiven hands over models, problems and numbers, those that may be and that do, and those that may not.
func withGiven(use func(g given)) {
	some := source(8)
	for _, all := range []map[string]Problem{rights(), wrongs()} {
		for _, p := range all {
			if size(p) < 400 {
				m, x := some.done(3, 3)
				use(given{m, p, some.row(len(p.A), -4), some.upTo(5), some.number(-4)})
				use(given{m, p, x, some.upTo(5), some.number(-4)})
			}
		}
	}
	for _, m := range wrongModels() {
		if len(m.Vars) < 99 && len(m.Cost) < 99 && len(m.Vars)*len(m.Rows) < 400 && len(m.Rows) < 99 {
			use(given{m, three(), noughts(len(m.Vars)), 1, one("1")})
		}
	}
	for range 60 {
		m, x := some.done(some.upTo(4), some.upTo(4))
		p, y := some.problem(some.upTo(4), some.upTo(4))
		for _, x := range [][]rat.Rat{x, y, some.row(len(p.A), -4)} {
			use(given{m, p, x, some.upTo(5), some.number(-4)})
		}
	}
}

func TestMemoryOfWhatIsHandedIn(t *testing.T) {
	for name, call := range calls() {
		withGiven(func(g given) {
			want := call(g).shown()
			for _, room := range []int{1, 3} {
				mine := g.roomy(room)
				was := mine.imprint()
				if got := call(mine).shown(); got != want {
					t.Fatalf("%s hangs on the room behind an end: %.200q, want %.200q", name, got, want)
				}
				if mine.imprint() != was {
					t.Fatalf("%s changes what is handed in: %s, %s, %s", name, shownModel(g.m), shown(g.p), told(g.x))
				}
			}
		})
	}
}

// lists are all lists of fractions of an answer, with their spare room.
func (a answer) lists() [][]rat.Rat {
	all := [][]rat.Rat{a.row[:cap(a.row)], a.p.B[:cap(a.p.B)], a.p.C[:cap(a.p.C)]}
	for _, row := range a.p.A[:cap(a.p.A)] {
		all = append(all, row[:cap(row)])
	}
	return all
}

// fill writes over all lists of an answer, their spare room too, each with a number of its own; of the numbers' own words, that may be
// shared, only over the room behind them. It tells whether each list kept what was written into it, so that none is shared with another one.
func (a answer) fill() bool {
	all := a.lists()
	for k, list := range all {
		for i, v := range list {
			for _, words := range []nat.Nat{v.Num.Size, v.Den} {
				for place := len(words); place < cap(words); place++ {
					words[:cap(words)][place] = 0xa5a5a5a5
				}
			}
			list[i] = rat.Int(-77 - k)
		}
	}
	for k, list := range all {
		if slices.ContainsFunc(list, func(v rat.Rat) bool { return rat.Compare(v, rat.Int(-77-k)) != 0 }) {
			return false
		}
	}
	for k := range a.p.A[:cap(a.p.A)] {
		a.p.A[:cap(a.p.A)][k] = row("5 5 5 5 5 5 5")
	}
	return true
}

// grow lets each list of an answer grow: none writes into another one.
func (a answer) grow() {
	for _, list := range append([][]rat.Rat{a.row, a.p.B, a.p.C}, a.p.A...) {
		_ = append(list, rat.Int(-1), rat.Int(-2), rat.Int(-3))
	}
	_ = append(a.p.A, row("-1"), row("-2"))
}

func TestMemoryOfAnswers(t *testing.T) {
	for name, call := range calls() {
		withGiven(func(g given) {
			g = g.roomy(2)
			was := g.imprint()
			first, second := call(g), call(g)
			want := second.shown()
			if !first.fill() {
				t.Fatalf("%s: two lists of an answer share memory", name)
			}
			second.grow()
			if got := second.shown(); got != want {
				t.Fatalf("%s: two answers share memory: %.200q, want %.200q", name, got, want)
			}
			if g.imprint() != was {
				t.Fatalf("%s: an answer shares memory with what was handed in", name)
			}
			if got := call(g).shown(); got != want {
				t.Fatalf("%s, after an answer was written over: %.200q, want %.200q", name, got, want)
			}
			// What was handed in is written over: nothing of it is kept.
			answer{p: g.p, row: g.x}.fill()
			answer{row: g.m.Cost}.fill()
			for _, r := range g.m.Rows {
				answer{row: r.Coef}.fill()
			}
			if got := second.shown(); got != want {
				t.Fatalf("%s keeps what was handed in: %.200q, want %.200q", name, got, want)
			}
		})
	}
}

// The same list as costs, as all rows, as what they come to, as numbers and as a column; and pieces of one list.
func TestMemoryOfSharedLists(t *testing.T) {
	for name, call := range calls() {
		all := roomyRow(vec.Ints(1, 0, 2), 2)
		apart := func() []rat.Rat { return row("1 0 2") }
		vars := []string{"x", "y", "z"}
		shared := given{
			model.Model{Vars: vars, Cost: all, Rows: []model.Row{{Name: "a", Coef: all, Rel: -1, B: one("5")}, {Name: "b", Coef: all, B: one("5")}, {Name: "c", Coef: all, Rel: 1, B: all[0]}}},
			Problem{[][]rat.Rat{all, all, all}, all, all}, all, 2, all[2],
		}
		others := given{
			model.Model{Vars: vars, Cost: apart(), Rows: []model.Row{{Name: "a", Coef: apart(), Rel: -1, B: one("5")}, {Name: "b", Coef: apart(), B: one("5")}, {Name: "c", Coef: apart(), Rel: 1, B: one("1")}}},
			Problem{[][]rat.Rat{apart(), apart(), apart()}, apart(), apart()}, apart(), 2, one("2"),
		}
		was, want := shared.imprint(), call(others).shown()
		got := call(shared)
		if got.shown() != want {
			t.Errorf("%s of lists that are one: %q, want %q", name, got.shown(), want)
		}
		if !got.fill() || shared.imprint() != was {
			t.Errorf("%s of lists that are one: an answer shares memory", name)
		}
		pieces := row("1 2 3 4 5 6 7 8")
		shared.p = Problem{[][]rat.Rat{pieces[:3], pieces[2:5], pieces[4:7]}, pieces[1:4], pieces[5:]}
		others.p = of("6 7 8", "1 2 3 | 2", "3 4 5 | 3", "5 6 7 | 4")
		was, want = shared.imprint(), call(others).shown()
		got = call(shared)
		if got.shown() != want || !got.fill() || shared.imprint() != was {
			t.Errorf("%s of pieces of one list: %q, want %q", name, got.shown(), want)
		}
	}
}

func TestNilAndEmptyAreTheSame(t *testing.T) {
	empty := []rat.Rat{}
	problems := [][2]Problem{
		{{}, {[][]rat.Rat{}, empty, empty}},
		{{C: row("1 2")}, {[][]rat.Rat{}, empty, row("1 2")}},
		{{A: [][]rat.Rat{nil, nil}, B: row("0 0")}, {[][]rat.Rat{{}, {}}, row("0 0"), empty}},
		{{A: [][]rat.Rat{nil, {}}, B: row("0 1")}, {[][]rat.Rat{{}, nil}, row("0 1"), empty}},
		{{B: row("1")}, {[][]rat.Rat{}, row("1"), empty}},
		{{A: [][]rat.Rat{nil}}, {[][]rat.Rat{{}}, empty, empty}},
		{changed(func(p *Problem) { p.A[1] = nil }), changed(func(p *Problem) { p.A[1] = empty })},
		{changed(func(p *Problem) { p.B = nil }), changed(func(p *Problem) { p.B = empty })},
		{changed(func(p *Problem) { p.C = nil }), changed(func(p *Problem) { p.C = empty })},
		{changed(func(p *Problem) { p.A = nil }), changed(func(p *Problem) { p.A = [][]rat.Rat{} })},
	}
	models := [][2]model.Model{
		{{}, {Vars: []string{}, Cost: empty, Rows: []model.Row{}}},
		{{Rows: []model.Row{{Name: "a", Rel: 1}}}, {Vars: []string{}, Cost: empty, Rows: []model.Row{{Name: "a", Coef: empty, Rel: 1}}}},
		{{Vars: []string{"x"}, Cost: row("1")}, {Vars: []string{"x"}, Cost: row("1"), Rows: []model.Row{}}},
		{{Vars: []string{"x"}}, {Vars: []string{"x"}, Cost: empty}},
		{{Vars: []string{"x"}, Cost: row("1"), Rows: []model.Row{{Name: "a"}}}, {Vars: []string{"x"}, Cost: row("1"), Rows: []model.Row{{Name: "a", Coef: empty}}}},
	}
	for name, call := range calls() {
		for _, p := range problems {
			for _, m := range models {
				for _, x := range [][2][]rat.Rat{{nil, empty}, {empty, nil}, {row("1"), row("1")}, {row("0 0"), row("0 0")}} {
					for _, k := range []int{-1, 0, 1} {
						one, other := call(given{m[0], p[0], x[0], k, rat.Int(1)}), call(given{m[1], p[1], x[1], k, rat.Int(1)})
						if one.shown() != other.shown() {
							t.Errorf("%s tells nil from empty: %q and %q", name, one.shown(), other.shown())
						}
					}
				}
			}
		}
	}
	if p, e := Of(model.Model{}); e != api.OK || !nothingTold(p) || !Right(p) || !Does(p, nil) || !Does(p, empty) {
		t.Errorf("Of a model of nothing: %s, error %d", shown(p), e)
	}
	if x, is := Slack(model.Model{}, nil); !is || len(x) > 0 {
		t.Errorf("Slack of a model of nothing: %s, %v", told(x), is)
	}
}

func TestTheSameAgain(t *testing.T) {
	for name, call := range calls() {
		withGiven(func(g given) {
			want := call(g).shown()
			for range 3 {
				if got := call(g).shown(); got != want {
					t.Fatalf("%s, again: %.200q, want %.200q", name, got, want)
				}
			}
		})
	}
}
