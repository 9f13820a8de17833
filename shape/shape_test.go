package shape

import (
	"fmt"
	"math"
	"math/big"
	"slices"
	"strings"
	"testing"

	"offcut/api"
	"offcut/model"
	"offcut/nat"
	"offcut/rat"
	"offcut/vec"
	"offcut/whole"
)

// The signatures are the document's; these lines do not build with others.
var (
	_ func(Problem) bool                                = Right
	_ func(model.Model) (Problem, api.Errno)            = Of
	_ func(model.Model, []rat.Rat) []rat.Rat            = Back
	_ func(model.Model, []rat.Rat) ([]rat.Rat, bool)    = Slack
	_ func(Problem, []rat.Rat) bool                     = Does
	_ func(Problem, int) []rat.Rat                      = Column
	_ func(Problem, []rat.Rat, rat.Rat) (Problem, bool) = With
	_ struct {
		A    [][]rat.Rat
		B, C []rat.Rat
	} = Problem{}
)

// The document's own limits.
const (
	longest = 5000
	highest = 90
)

// row is fractions, told as words.
func row(words string) []rat.Rat {
	var all []rat.Rat
	for _, s := range strings.Fields(words) {
		a, e := rat.Parse(s)
		if e != api.OK {
			panic("a test's number is none: " + s)
		}
		all = append(all, a)
	}
	return all
}

func one(word string) rat.Rat {
	return row(word)[0]
}

// of is a problem, told as costs, and rows with what they come to behind a bar.
func of(costs string, rows ...string) Problem {
	p := Problem{C: row(costs)}
	for _, words := range rows {
		a, b, _ := strings.Cut(words, "|")
		p.A, p.B = append(p.A, row(a)), append(p.B, one(b))
	}
	return p
}

// read is a model, told as a text.
func read(text string) model.Model {
	m, at, e := model.Parse(text)
	if e != api.OK {
		panic(fmt.Sprintf("a test's model is none: line %d of %q", at, text))
	}
	return m
}

// told is a row as a text.
func told(a []rat.Rat) string {
	var all []string
	for _, v := range a {
		all = append(all, rat.Text(v))
	}
	return strings.Join(all, " ")
}

// shown is all that a problem says, as a text.
func shown(p Problem) string {
	text := "costs " + told(p.C)
	for _, a := range p.A {
		text += "; " + told(a)
	}
	return text + "; come to " + told(p.B)
}

func shownModel(m model.Model) string {
	text := fmt.Sprint(m.Vars, told(m.Cost))
	for _, r := range m.Rows {
		text += fmt.Sprintf("; %s: %s (%d) %s", r.Name, told(r.Coef), r.Rel, rat.Text(r.B))
	}
	return text
}

// lowestAll tells whether all numbers of rows are as they are told.
func lowestAll(rows ...[]rat.Rat) bool {
	for _, a := range rows {
		for _, v := range a {
			if !rat.Right(v) {
				return false
			}
		}
	}
	return true
}

func lowestProblem(p Problem) bool {
	return lowestAll(p.A...) && lowestAll(p.B, p.C)
}

// nothingTold tells whether a problem is the zero one, with nil lists or empty ones.
func nothingTold(p Problem) bool {
	return len(p.A) == 0 && len(p.B) == 0 && len(p.C) == 0
}

// otherwise is a number that stands for the same, told in another way.
func otherwise(a rat.Rat, way int) rat.Rat {
	switch way % 4 {
	case 0:
		return rat.Rat{Num: whole.Int{Minus: a.Num.Minus, Size: nat.Mul(a.Num.Size, nat.Of(6))}, Den: nat.Mul(a.Den, nat.Of(6))}
	case 1:
		return rat.Rat{Num: whole.Int{Minus: a.Num.Minus, Size: append(nat.Shift(a.Num.Size, 0), 0, 0)}, Den: append(nat.Shift(a.Den, 0), 0)}
	case 2:
		if nat.Bits(a.Den) == 1 {
			return rat.Rat{Num: a.Num, Den: nat.Nat{0, 0}}
		}
		return otherwise(a, 0)
	}
	if rat.Sign(a) == 0 {
		return rat.Rat{Num: whole.Int{Minus: true}}
	}
	return otherwise(a, 1)
}

func rowOtherwise(a []rat.Rat, from int) []rat.Rat {
	var all []rat.Rat
	for k, v := range a {
		all = append(all, otherwise(v, from+k))
	}
	return all
}

func problemOtherwise(p Problem) Problem {
	q := Problem{B: rowOtherwise(p.B, 1), C: rowOtherwise(p.C, 2)}
	for k, a := range p.A {
		q.A = append(q.A, rowOtherwise(a, k))
	}
	return q
}

func modelOtherwise(m model.Model) model.Model {
	all := model.Model{Vars: m.Vars, Cost: rowOtherwise(m.Cost, 3)}
	for k, r := range m.Rows {
		all.Rows = append(all.Rows, model.Row{Name: r.Name, Coef: rowOtherwise(r.Coef, k+1), Rel: r.Rel, B: otherwise(r.B, k)})
	}
	return all
}

// noughts are as many of them.
func noughts(many int) []rat.Rat {
	return vec.Ints(make([]int, many)...)
}

// blank is a problem of noughts, of as many rows and places.
func blank(rows, places int) Problem {
	p := Problem{B: noughts(rows), C: noughts(places)}
	for range rows {
		p.A = append(p.A, noughts(places))
	}
	return p
}

// many is a model of as many variables, and as many rows, of each kind in turn.
func many(vars, rows int) model.Model {
	var m model.Model
	for k := range vars {
		m.Vars = append(m.Vars, fmt.Sprint("v", k))
		m.Cost = append(m.Cost, rat.Int(k))
	}
	for k := range rows {
		coef := noughts(vars)
		for i := range coef {
			coef[i] = rat.Int((k*7+i*3)%5 - 2)
		}
		m.Rows = append(m.Rows, model.Row{Name: fmt.Sprint("r", k), Coef: coef, Rel: k%3 - 1, B: rat.Int(-k)})
	}
	return m
}

// alike is a model of as many variables and rows, all of one kind.
func alike(vars, rows, rel int) model.Model {
	m := many(vars, rows)
	for k := range m.Rows {
		m.Rows[k].Rel = rel
	}
	return m
}

// three is a problem of three rows and four places, new each time.
func three() Problem {
	return of("1 -1/2 0 3", "1 2 1 0 | 4", "-1/3 0 0 -1 | 0", "0 1 0 2/7 | -5")
}

// changed is the problem of three, with a change.
func changed(change func(p *Problem)) Problem {
	p := three()
	change(&p)
	return p
}

// rights are problems that may be.
func rights() map[string]Problem {
	return map[string]Problem{
		"three":                     three(),
		"zero":                      {},
		"empty lists":               {[][]rat.Rat{}, []rat.Rat{}, []rat.Rat{}},
		"the chapter's":             of("1 0", "1 -1 | 2"),
		"one row":                   of("7", "1 | 2"),
		"no rows":                   of("1 2 3"),
		"empty rows":                {[][]rat.Rat{}, []rat.Rat{}, row("1 2 3")},
		"no places, nil rows":       {[][]rat.Rat{nil, nil}, row("1 2"), nil},
		"no places, empty rows":     {[][]rat.Rat{{}, {}}, row("1 2"), []rat.Rat{}},
		"no places, both":           {[][]rat.Rat{nil, {}}, row("0 0"), nil},
		"90 rows":                   blank(highest, 2),
		"90 rows, no places":        blank(highest, 0),
		"90 rows, nil ones":         {make([][]rat.Rat, highest), noughts(highest), nil},
		"5000 places":               blank(2, longest),
		"5000 places, no rows":      blank(0, longest),
		"90 rows, 5000 places":      alikeRows(highest, longest),
		"told otherwise":            problemOtherwise(three()),
		"zero fractions":            {[][]rat.Rat{make([]rat.Rat, 2)}, make([]rat.Rat, 1), make([]rat.Rat, 2)},
		"numbers below 0":           of("-1 -1/2", "-3 -4/5 | -6"),
		"the same row twice":        of("1 2", "3 4 | 5", "3 4 | 5"),
		"a row that nothing fits":   of("1 2", "0 0 | 5"),
		"long numbers":              of("123456789012345678901234567890/7919", "-1/123456789012345678901234567890 | 98765432109876543210"),
		"as high as it is long":     blank(3, 3),
		"higher than it is long":    blank(5, 2),
		"rows that are longer rows": {[][]rat.Rat{row("1 2 3")[:2], row("1 2 3")[1:]}, row("1 2"), row("1 2")},
	}
}

// alikeRows are rows that are all one list: a problem may have them, too.
func alikeRows(rows, places int) Problem {
	one := noughts(places)
	return Problem{slices.Repeat([][]rat.Rat{one}, rows), noughts(rows), one}
}

// wrongs are problems that may not be.
func wrongs() map[string]Problem {
	all := map[string]Problem{
		"91 rows":                          blank(highest+1, 2),
		"91 rows, no places":               blank(highest+1, 0),
		"91 rows, nil ones":                {make([][]rat.Rat, highest+1), noughts(highest + 1), nil},
		"5001 places":                      blank(2, longest+1),
		"5001 places, no rows":             blank(0, longest+1),
		"91 rows, 5001 places":             alikeRows(highest+1, longest+1),
		"91 rows, 5000 places":             alikeRows(highest+1, longest),
		"90 rows, 5001 places":             alikeRows(highest, longest+1),
		"as many costs as a great number":  {C: make([]rat.Rat, 1<<20)},
		"as many rows as a great number":   {A: make([][]rat.Rat, 1<<20), B: make([]rat.Rat, 1<<20)},
		"no costs":                         changed(func(p *Problem) { p.C = nil }),
		"empty costs":                      changed(func(p *Problem) { p.C = []rat.Rat{} }),
		"fewer costs":                      changed(func(p *Problem) { p.C = p.C[:3] }),
		"more costs":                       changed(func(p *Problem) { p.C = append(p.C, rat.Int(0)) }),
		"no rows":                          changed(func(p *Problem) { p.A = nil }),
		"empty rows":                       changed(func(p *Problem) { p.A = [][]rat.Rat{} }),
		"fewer rows":                       changed(func(p *Problem) { p.A = p.A[:2] }),
		"more rows":                        changed(func(p *Problem) { p.A = append(p.A, row("1 2 3 4")) }),
		"no numbers":                       changed(func(p *Problem) { p.B = nil }),
		"empty numbers":                    changed(func(p *Problem) { p.B = []rat.Rat{} }),
		"fewer numbers":                    changed(func(p *Problem) { p.B = p.B[:2] }),
		"more numbers":                     changed(func(p *Problem) { p.B = append(p.B, rat.Int(0)) }),
		"a number alone":                   {B: row("1")},
		"a row alone":                      {A: [][]rat.Rat{row("1")}},
		"an empty row alone":               {A: [][]rat.Rat{{}}},
		"a nil row alone":                  {A: [][]rat.Rat{nil}},
		"89 rows, 90 numbers":              {blank(highest-1, 1).A, noughts(highest), noughts(1)},
		"90 rows, 91 numbers":              {blank(highest, 1).A, noughts(highest + 1), noughts(1)},
		"91 rows, 90 numbers":              {blank(highest+1, 1).A, noughts(highest), noughts(1)},
		"rows longer than the costs":       {blank(2, longest+1).A, noughts(2), noughts(longest)},
		"rows shorter than the costs":      {blank(2, longest-1).A, noughts(2), noughts(longest)},
		"columns, where rows should stand": {turned(three().A), three().B, three().C},
	}
	for k := range 3 {
		for _, long := range []int{0, 1, 3, 5, longest} {
			all[fmt.Sprint("row ", k, " of length ", long)] = changed(func(p *Problem) { p.A[k] = noughts(long) })
		}
		all[fmt.Sprint("row ", k, " nil")] = changed(func(p *Problem) { p.A[k] = nil })
		all[fmt.Sprint("row ", k, " left out")] = changed(func(p *Problem) { p.A = slices.Delete(p.A, k, k+1) })
	}
	return all
}

// turned has rows as columns.
func turned(m [][]rat.Rat) [][]rat.Rat {
	var all [][]rat.Rat
	for at := range m[0] {
		var column []rat.Rat
		for _, a := range m {
			column = append(column, a[at])
		}
		all = append(all, column)
	}
	return all
}

// P11.1, Right

func TestRight(t *testing.T) {
	for name, p := range rights() {
		if !Right(p) {
			t.Errorf("Right, %s: false", name)
		}
	}
	for name, p := range wrongs() {
		if Right(p) {
			t.Errorf("Right, %s: true", name)
		}
	}
}

// All problems of up to three rows, each up to two long, with up to three numbers and costs.
func TestRightOfAllSmallOnes(t *testing.T) {
	var lengths [][]int
	for high := range 4 {
		for code := range int(math.Pow(3, float64(high))) {
			var all []int
			for range high {
				all = append(all, code%3)
				code /= 3
			}
			lengths = append(lengths, all)
		}
	}
	said := map[bool]int{}
	for _, long := range lengths {
		for b := range 4 {
			for c := range 4 {
				p := Problem{B: noughts(b), C: noughts(c)}
				for _, l := range long {
					p.A = append(p.A, noughts(l))
				}
				want := len(long) == b && !slices.ContainsFunc(long, func(l int) bool { return l != c })
				if got := Right(p); got != want {
					t.Errorf("Right of rows of lengths %v, %d numbers, %d costs: %v", long, b, c, got)
				}
				said[want]++
			}
		}
	}
	if said[true] != 4*4-3 || said[false] != 40*16-said[true] {
		t.Errorf("other problems were tried: %v", said)
	}
}

func TestRightOfHowMany(t *testing.T) {
	for rows := range 120 {
		if got := Right(blank(rows, 1)); got != (rows <= 90) {
			t.Errorf("Right of %d rows: %v", rows, got)
		}
	}
	for places := 4990; places < 5010; places++ {
		if got := Right(blank(1, places)); got != (places <= 5000) {
			t.Errorf("Right of %d places: %v", places, got)
		}
	}
}

// exact is what a fraction stands for, by arithmetic that is not the program's own.
func exact(a rat.Rat) *big.Rat {
	b, _ := new(big.Rat).SetString(rat.Text(a))
	return b
}

// dot is the sum of products of all that both have.
func dot(a, b []rat.Rat) *big.Rat {
	sum := new(big.Rat)
	for k := range min(len(a), len(b)) {
		sum.Add(sum, new(big.Rat).Mul(exact(a[k]), exact(b[k])))
	}
	return sum
}

// P11.1, Of

func TestOf(t *testing.T) {
	for text, want := range map[string]Problem{
		"min x\nr: x >= 2": of("1 0", "1 -1 | 2"),
		"min x\nr: x <= 2": of("1 0", "1 1 | 2"),
		"min x\nr: x = 2":  of("1", "1 | 2"),
		"min 0":            of(""),
		"min x - 1/2 y":    of("1 -1/2"),
		"min 0\nr: 0 = 1":  of("", "| 1"),
		"min 0\nr: 0 <= 1": of("0", "1 | 1"),
		"min 0\nr: 0 >= 1": of("0", "-1 | 1"),
		"min 0\na: 0 >= 1\nb: 0 = 2\nc: 0 <= -3/4":                         of("0 0", "-1 0 | 1", "0 0 | 2", "0 1 | -3/4"),
		"min x - y\na: x + 2 y <= 4\nb: x >= 1\nc: x - y = 0":              of("1 -1 0 0", "1 2 1 0 | 4", "1 0 0 -1 | 1", "1 -1 0 0 | 0"),
		"min x - y\nc: x - y = 0\nb: x >= 1\na: x + 2 y <= 4":              of("1 -1 0 0", "1 -1 0 0 | 0", "1 0 -1 0 | 1", "1 2 0 1 | 4"),
		"min x\na: x + y = 1\nb: y - x = -1/3":                             of("1 0", "1 1 | 1", "-1 1 | -1/3"),
		"min x\na: x + y <= 1\nb: y - x <= -1/3":                           of("1 0 0 0", "1 1 1 0 | 1", "-1 1 0 1 | -1/3"),
		"min x\na: x + y >= 1\nb: y - x >= -1/3":                           of("1 0 0 0", "1 1 -1 0 | 1", "-1 1 0 -1 | -1/3"),
		"min - x\na: x <= 1\nb: x = 2\nc: x >= 3\nd: x = 4\ne: x <= 5":     of("-1 0 0 0", "1 1 0 0 | 1", "1 0 0 0 | 2", "1 0 -1 0 | 3", "1 0 0 0 | 4", "1 0 0 1 | 5"),
		"min 0\na: - 2/6 z <= -4/8\nb: 0 z + 10 y >= 0":                    of("0 0 0 0", "-1/3 0 1 0 | -1/2", "0 10 0 -1 | 0"),
		"min x\na: 123456789012345678901234567890 x >= 1/1000000000000000": of("1 0", "123456789012345678901234567890 -1 | 1/1000000000000000"),
	} {
		m := read(text)
		for _, m := range []model.Model{m, modelOtherwise(m)} {
			got, e := Of(m)
			if e != api.OK || shown(got) != shown(want) || !Right(got) || !lowestProblem(got) {
				t.Errorf("Of %q: %s, error %d, want %s", text, shown(got), e, shown(want))
			}
		}
	}
}

// wantProblem is a model's problem, made place by place and not row by row.
func wantProblem(m model.Model) string {
	rows := make([]string, len(m.Rows))
	put := func(k int, a string) { rows[k] = strings.TrimSpace(rows[k] + " " + a) }
	costs := ""
	for at, v := range m.Cost {
		costs += " " + exact(v).RatString()
		for k, r := range m.Rows {
			put(k, exact(r.Coef[at]).RatString())
		}
	}
	b := ""
	for i, r := range m.Rows {
		b += " " + exact(r.B).RatString()
		if r.Rel == 0 {
			continue
		}
		costs += " 0"
		for k := range m.Rows {
			put(k, map[bool]string{true: fmt.Sprint(-r.Rel), false: "0"}[i == k])
		}
	}
	text := "costs " + strings.TrimSpace(costs)
	for _, a := range rows {
		text += "; " + a
	}
	return text + "; come to " + strings.TrimSpace(b)
}

func TestOfAnyModel(t *testing.T) {
	some := source(1)
	kinds := map[int]int{}
	try := func(m model.Model) {
		p, e := Of(m)
		if want := wantProblem(m); e != api.OK || shown(p) != want || !Right(p) || !lowestProblem(p) {
			t.Fatalf("Of %s: %s, error %d, want %s", shownModel(m), shown(p), e, want)
		}
		kinds[len(p.C)-len(m.Vars)]++
	}
	for range 2000 {
		try(some.model(some.upTo(6), some.upTo(6)))
	}
	for rel := -1; rel <= 1; rel++ {
		try(alike(3, 60, rel))
		try(alike(60, 60, rel))
		try(alike(0, 60, rel))
	}
	for _, long := range []int{0, 1, 59, 60} {
		try(many(60, long))
		try(many(long, 60))
	}
	if len(kinds) < 7 {
		t.Errorf("too few kinds were tried: %v", kinds)
	}
}

func TestOfTheMost(t *testing.T) {
	for rel, want := range map[int]int{-1: 120, 0: 60, 1: 120} {
		p, e := Of(alike(60, 60, rel))
		if e != api.OK || len(p.A) != 60 || len(p.B) != 60 || len(p.C) != want || !Right(p) {
			t.Errorf("Of 60 variables and 60 rows, Rel %d: %d rows, %d places, error %d", rel, len(p.A), len(p.C), e)
		}
	}
}

// wrongModels are models that may not be; the numbers of noughts would do for most of them.
func wrongModels() map[string]model.Model {
	from := func(change func(m *model.Model)) model.Model {
		m := read("min x + y\na: x + y <= 4\nb: x >= 0\nc: x - y = 0")
		change(&m)
		return m
	}
	return map[string]model.Model{
		"a variable twice":      from(func(m *model.Model) { m.Vars[1] = "x" }),
		"a variable's name":     from(func(m *model.Model) { m.Vars[0] = "1x" }),
		"no name":               from(func(m *model.Model) { m.Vars[0] = "" }),
		"a row twice":           from(func(m *model.Model) { m.Rows[2].Name = "a" }),
		"a row's name":          from(func(m *model.Model) { m.Rows[1].Name = "b:" }),
		"fewer costs":           from(func(m *model.Model) { m.Cost = m.Cost[:1] }),
		"more costs":            from(func(m *model.Model) { m.Cost = row("1 2 3") }),
		"no costs":              from(func(m *model.Model) { m.Cost = nil }),
		"more variables":        from(func(m *model.Model) { m.Vars = append(m.Vars, "z") }),
		"fewer variables":       from(func(m *model.Model) { m.Vars = m.Vars[:1] }),
		"no variables":          from(func(m *model.Model) { m.Vars = nil }),
		"a longer row":          from(func(m *model.Model) { m.Rows[0].Coef = row("1 1 1") }),
		"a shorter row":         from(func(m *model.Model) { m.Rows[2].Coef = row("0") }),
		"a nil row":             from(func(m *model.Model) { m.Rows[1].Coef = nil }),
		"a Rel of 2":            from(func(m *model.Model) { m.Rows[1].Rel = 2 }),
		"a Rel of -2":           from(func(m *model.Model) { m.Rows[0].Rel = -2 }),
		"a Rel of 1000":         from(func(m *model.Model) { m.Rows[1].Rel = 1000 }),
		"the least Rel":         from(func(m *model.Model) { m.Rows[0].Rel = math.MinInt }),
		"the greatest Rel":      from(func(m *model.Model) { m.Rows[1].Rel = math.MaxInt }),
		"61 variables":          {Vars: many(61, 0).Vars, Cost: many(61, 0).Cost},
		"61 rows":               alike(0, 61, 0),
		"61 rows of 60":         alike(60, 61, 0),
		"5001 variables":        many(5001, 0),
		"91 rows":               alike(0, 91, -1),
		"a row without a name":  {Rows: []model.Row{{}}},
		"a cost alone":          {Cost: row("1")},
		"a variable alone":      {Vars: []string{"x"}},
		"a million of rows":     {Rows: make([]model.Row, 1<<20)},
		"a million of costs":    {Cost: make([]rat.Rat, 1<<20)},
		"a million of no names": {Vars: make([]string, 1<<20)},
	}
}

func TestOfWhatMayNotBe(t *testing.T) {
	for name, m := range wrongModels() {
		if p, e := Of(m); e != api.ErrArg || !nothingTold(p) {
			t.Errorf("Of, %s: %.90s, error %d", name, shown(p), e)
		}
	}
}

// P11.1, Back

func TestBack(t *testing.T) {
	two := read("min x + y\na: x + y <= 4")
	for _, c := range []struct {
		m       model.Model
		x, want string
	}{
		{two, "", ""}, {two, "1", ""}, {two, "1 2", "1 2"}, {two, "1 2 3", "1 2"}, {two, "-1 -2/3 7 8 9", "-1 -2/3"}, {two, "0 0", "0 0"},
		{read("min 0"), "", ""}, {read("min 0"), "1", ""}, {read("min 0"), "1 2 3", ""},
		{read("min 0\na: 0 <= 1"), "5", ""},
		{read("min x"), "", ""}, {read("min x"), "7/3", "7/3"}, {read("min x"), "7/3 1", "7/3"},
	} {
		for _, x := range [][]rat.Rat{row(c.x), rowOtherwise(row(c.x), len(c.x))} {
			if got := Back(c.m, x); told(got) != c.want || !lowestAll(got) {
				t.Errorf("Back of %s, %s: %s, want %s", shownModel(c.m), told(x), told(got), c.want)
			}
		}
	}
	if got := Back(two, make([]rat.Rat, 3)); told(got) != "0 0" || !lowestAll(got) {
		t.Errorf("Back of zero fractions: %v", got)
	}
}

func TestBackOfHowMany(t *testing.T) {
	all := make([]rat.Rat, 130)
	for k := range all {
		all[k], _ = rat.Of(k-60, k+1)
	}
	for vars := range 61 {
		m := many(vars, 3)
		for long := range len(all) {
			got := Back(m, all[:long])
			want := all[:vars]
			if long < vars {
				want = nil
			}
			if told(got) != told(want) {
				t.Fatalf("Back of %d variables, %d numbers: %s", vars, long, told(got))
			}
		}
	}
}

// Back asks how many variables there are, and nothing else.
func TestBackOfAnyModel(t *testing.T) {
	x := vec.Ints(5, 6, 7, 8)
	for name, m := range wrongModels() {
		want := ""
		if len(m.Vars) <= 4 {
			want = told(x[:len(m.Vars)])
		}
		if got := told(Back(m, x)); got != want {
			t.Errorf("Back, %s: %s, want %s", name, got, want)
		}
	}
}

// P11.1, Slack

func TestSlack(t *testing.T) {
	text := "min x - y\na: x + 2 y <= 4\nb: x >= 1\nc: x - y = 0"
	for _, c := range []struct{ text, x, want string }{
		{text, "1 1", "1 1 1 0"}, {text, "4/3 4/3", "4/3 4/3 0 1/3"}, {text, "2 2", "-"}, {text, "1/2 1/2", "-"}, {text, "1 2/3", "-"}, {text, "1 1 1 0", "-"}, {text, "1 1 1", "-"}, {text, "1", "-"}, {text, "", "-"},
		{"min 0", "", ""}, {"min 0", "0", "-"}, {"min 0", "1", "-"},
		{"min x", "", "-"}, {"min x", "0", "0"}, {"min x", "5/2", "5/2"}, {"min x", "-1", "-"}, {"min x", "1 0", "-"}, {"min x", "-1/1000000000000", "-"},
		{"min 0\na: 0 <= 1", "", "1"}, {"min 0\na: 0 <= 0", "", "0"}, {"min 0\na: 0 <= -1", "", "-"},
		{"min 0\na: 0 >= -1", "", "1"}, {"min 0\na: 0 >= 0", "", "0"}, {"min 0\na: 0 >= 1", "", "-"},
		{"min 0\na: 0 = 0", "", ""}, {"min 0\na: 0 = 1", "", "-"},
		{"min x\na: x <= 2\nb: x >= 2\nc: x = 2", "2", "2 0 0"}, {"min x\na: x <= 2\nb: x >= 2", "1", "-"}, {"min x\na: x <= 2\nb: x >= 2", "3", "-"},
		{"min x\na: x >= 1/2\nb: x <= 5/2\nc: 2 x = 4\nd: - x >= -9\ne: - 3 x <= 0", "2", "2 3/2 1/2 7 6"},
		{"min x\na: x >= 2", "2", "2 0"}, {"min x\na: x >= 2", "5", "5 3"}, {"min x\na: x >= 2", "1", "-"}, {"min x\na: x >= -2", "0", "0 2"},
		{"min x\na: x + y = 1\nb: x = 1/3", "1/3 2/3", "1/3 2/3"}, {"min x\na: x + y = 1\nb: x = 1/3", "1/3 1/3", "-"},
		{"min x - y\na: x - y <= 5", "7 2", "7 2 0"}, {"min x - y\na: x - y <= 5", "7 3", "7 3 1"}, {"min x - y\na: x - y <= 5", "8 -1", "-"}, {"min x - y\na: x - y <= 5", "-1 2", "-"},
	} {
		m := read(c.text)
		for _, x := range [][]rat.Rat{row(c.x), rowOtherwise(row(c.x), len(c.x))} {
			for _, m := range []model.Model{m, modelOtherwise(m)} {
				got, is := Slack(m, x)
				want := c.want
				if want == "-" {
					want = ""
				}
				if is != (c.want != "-") || told(got) != want || !lowestAll(got) {
					t.Errorf("Slack of %q, %s: %s, %v, want %s", c.text, told(x), told(got), is, c.want)
				}
			}
		}
	}
}

func TestSlackOfZeroFractions(t *testing.T) {
	m := model.Model{Vars: []string{"x", "y"}, Cost: make([]rat.Rat, 2), Rows: []model.Row{{Name: "a", Coef: make([]rat.Rat, 2), Rel: -1}, {Name: "b", Coef: make([]rat.Rat, 2), Rel: 1}, {Name: "c", Coef: make([]rat.Rat, 2)}}}
	for _, x := range [][]rat.Rat{make([]rat.Rat, 2), {{Num: whole.Int{Minus: true}}, {Num: whole.Int{Minus: true, Size: nat.Nat{0}}, Den: nat.Nat{4}}}} {
		if got, is := Slack(m, x); !is || told(got) != "0 0 0 0" || !lowestAll(got) {
			t.Errorf("Slack of zero fractions: %v, %v", got, is)
		}
	}
	if got, is := Slack(m, []rat.Rat{{}, {Num: whole.Int{Minus: true, Size: nat.Nat{3}}}}); is || len(got) > 0 {
		t.Errorf("Slack of a -3 by 0, that stands for -3: %s, %v", told(got), is)
	}
}

// Numbers may do for all rows of what is no model; but it has no problem.
func TestSlackOfWhatMayNotBe(t *testing.T) {
	did := 0
	for name, m := range wrongModels() {
		for _, long := range []int{len(m.Vars), len(m.Cost), 2, 0} {
			x := make([]rat.Rat, long)
			if long < 99 && model.Feasible(m, x) {
				did++
			}
			if got, is := Slack(m, x); is || len(got) > 0 {
				t.Errorf("Slack, %s, %d numbers: %.90s, %v", name, long, told(got), is)
			}
		}
	}
	if did < 20 {
		t.Errorf("numbers do for too few of them: %d", did)
	}
}

// Models with numbers that do, and some that do not, against other arithmetic.
func TestSlackOfAnyModel(t *testing.T) {
	some := source(2)
	said := map[bool]int{}
	for range 3000 {
		m, x := some.done(some.upTo(5), some.upTo(5))
		if some.upTo(12) == 0 {
			x = some.row(some.upTo(6), -1)
		}
		got, is := Slack(m, x)
		want, does := slack(m, x)
		said[is]++
		if is != does || told(got) != want || !lowestAll(got) {
			t.Fatalf("Slack of %s, %s: %s, %v, want %s, %v", shownModel(m), told(x), told(got), is, want, does)
		}
	}
	if said[true] < 500 || said[false] < 500 {
		t.Errorf("too few of a kind were tried: %v", said)
	}
}

// slack is what is to be told, as a text, by other arithmetic than the program's own.
func slack(m model.Model, x []rat.Rat) (string, bool) {
	if len(x) != len(m.Vars) {
		return "", false
	}
	var all []string
	for _, v := range x {
		if exact(v).Sign() < 0 {
			return "", false
		}
		all = append(all, exact(v).RatString())
	}
	for _, r := range m.Rows {
		left := new(big.Rat).Sub(exact(r.B), dot(r.Coef, x))
		if r.Rel > 0 {
			left.Neg(left)
		}
		if left.Sign() < 0 || r.Rel == 0 && left.Sign() != 0 {
			return "", false
		}
		if r.Rel != 0 {
			all = append(all, left.RatString())
		}
	}
	return strings.Join(all, " "), true
}

// P11.3

// What does for a model, with Slack, does for its problem, at the same cost, and back it is itself.
func TestWhatDoesForAModel(t *testing.T) {
	some := source(3)
	did := 0
	try := func(m model.Model, x []rat.Rat) {
		p, _ := Of(m)
		all, is := Slack(m, x)
		if is != model.Feasible(m, x) {
			t.Fatalf("Slack of %s, %s: %v", shownModel(m), told(x), is)
		}
		if !is {
			return
		}
		did++
		if !Does(p, all) || rat.Compare(vec.Dot(p.C, all), model.Value(m, x)) != 0 || !vec.Same(Back(m, all), x) {
			t.Fatalf("what does for %s: %s, with Slack %s, back %s", shownModel(m), told(x), told(all), told(Back(m, all)))
		}
		// It is the only row that begins so.
		for k := len(x); k < len(all); k++ {
			other := slices.Clone(all)
			other[k] = rat.Add(other[k], one("1/7"))
			if Does(p, other) {
				t.Fatalf("%s does for the problem of %s, beside %s", told(other), shownModel(m), told(all))
			}
		}
	}
	for range 1500 {
		try(some.done(some.upTo(6), some.upTo(6)))
	}
	for _, long := range []int{1, 30, 60} {
		m := many(long, 60)
		x := some.row(long, 0)
		for k, r := range m.Rows {
			m.Rows[k].B = rat.Sub(vec.Dot(r.Coef, x), rat.Int(r.Rel*(k%4)))
		}
		try(m, x)
	}
	if did < 500 {
		t.Errorf("too few did: %d", did)
	}
}

// What does for the problem does, Back, for the model, at the same cost.
func TestWhatDoesForAProblem(t *testing.T) {
	some := source(4)
	did, not := 0, 0
	for range 3000 {
		m := some.model(some.upTo(5), some.upTo(5))
		p, _ := Of(m)
		all := some.row(len(p.C), 0)
		// What the rows come to with these numbers is what they are to come to, mostly.
		for k := range m.Rows {
			if some.upTo(16) > 0 {
				m.Rows[k].B = vec.Dot(p.A[k], all)
			}
		}
		p, _ = Of(m)
		if some.upTo(16) == 0 && len(all) > 0 {
			all[some.upTo(len(all))] = rat.Int(-1)
		}
		x := Back(m, all)
		if !Does(p, all) {
			not++
			continue
		}
		did++
		again, is := Slack(m, x)
		if !model.Feasible(m, x) || rat.Compare(model.Value(m, x), vec.Dot(p.C, all)) != 0 || !is || !vec.Same(again, all) {
			t.Fatalf("what does for the problem of %s: %s, back %s", shownModel(m), told(all), told(x))
		}
	}
	if did < 500 || not < 500 {
		t.Errorf("too few of a kind were tried: %d, %d", did, not)
	}
}
