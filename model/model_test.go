package model

import (
	"fmt"
	"math"
	"math/big"
	"strings"
	"testing"

	"offcut/api"
	"offcut/nat"
	"offcut/rat"
	"offcut/vec"
	"offcut/whole"
)

// The signatures are the document's; these lines do not build with others.
var (
	_ func(Model) bool                     = Right
	_ func(string) (Model, int, api.Errno) = Parse
	_ func(Model) (string, api.Errno)      = Print
	_ func(Model, Model) bool              = Same
	_ func(Model, []rat.Rat) bool          = Feasible
	_ func(Model, []rat.Rat) rat.Rat       = Value
	_                                      = struct {
		Name string
		Coef []rat.Rat
		Rel  int
		B    rat.Rat
	}(Row{})
	_ = struct {
		Vars []string
		Cost []rat.Rat
		Rows []Row
	}(Model{})
)

// row is fractions, told as words.
func row(words string) []rat.Rat {
	var all []rat.Rat
	for _, s := range strings.Fields(words) {
		a, e := rat.Parse(s)
		if e != api.OK {
			panic("a test's number is none: " + s)
		}
		all = append(all, a)
	}
	return all
}

func one(word string) rat.Rat {
	return row(word)[0]
}

// shown is all that a model says, as a text of another kind than the program's own.
func shown(m Model) string {
	text := fmt.Sprint(m.Vars, vec.Texts(m.Cost))
	for _, r := range m.Rows {
		text += fmt.Sprintf(" %s%v%d %s", r.Name, vec.Texts(r.Coef), r.Rel, rat.Text(r.B))
	}
	return text
}

// lowest tells whether all numbers of a model are lowest.
func lowest(m Model) bool {
	all := append([]rat.Rat{}, m.Cost...)
	for _, r := range m.Rows {
		all = append(append(all, r.Coef...), r.B)
	}
	for _, v := range all {
		if !rat.Right(v) {
			return false
		}
	}
	return true
}

// nothingTold tells whether a model is the zero one, with nil lists or empty ones.
func nothingTold(m Model) bool {
	return len(m.Vars) == 0 && len(m.Cost) == 0 && len(m.Rows) == 0
}

// otherwise is a number that stands for the same, told in another way.
func otherwise(a rat.Rat, way int) rat.Rat {
	switch way % 4 {
	case 0:
		return rat.Rat{Num: whole.Int{Minus: a.Num.Minus, Size: nat.Mul(a.Num.Size, nat.Of(6))}, Den: nat.Mul(a.Den, nat.Of(6))}
	case 1:
		return rat.Rat{Num: whole.Int{Minus: a.Num.Minus, Size: append(nat.Shift(a.Num.Size, 0), 0, 0)}, Den: append(nat.Shift(a.Den, 0), 0)}
	case 2:
		if nat.Bits(a.Den) == 1 {
			return rat.Rat{Num: a.Num, Den: nat.Nat{0, 0}}
		}
		return otherwise(a, 0)
	}
	if rat.Sign(a) == 0 {
		return rat.Rat{Num: whole.Int{Minus: true}}
	}
	return otherwise(a, 1)
}

func allOtherwise(m Model) Model {
	way := 0
	next := func(a rat.Rat) rat.Rat { way++; return otherwise(a, way) }
	each := func(a []rat.Rat) []rat.Rat {
		var all []rat.Rat
		for _, v := range a {
			all = append(all, next(v))
		}
		return all
	}
	m.Cost = each(m.Cost)
	rows := m.Rows
	m.Rows = nil
	for _, r := range rows {
		m.Rows = append(m.Rows, Row{r.Name, each(r.Coef), r.Rel, next(r.B)})
	}
	return m
}

// three is a model of three variables and three rows, new each time.
func three() Model {
	return Model{[]string{"x", "y_1", "z2"}, row("3 -1/2 0"), []Row{
		{"cap", row("1 1 0"), -1, one("4")}, {"all", row("0 0 0"), 0, one("0")}, {"x", row("-1 0 2/3"), 1, one("-7/2")},
	}}
}

// many is a model of as many variables, and as many rows.
func many(vars, rows int) Model {
	var m Model
	for k := range vars {
		m.Vars = append(m.Vars, fmt.Sprint("v", k))
		m.Cost = append(m.Cost, rat.Int(k))
	}
	for k := range rows {
		m.Rows = append(m.Rows, Row{fmt.Sprint("r", k), vec.Ints(make([]int, vars)...), k%3 - 1, rat.Int(-k)})
	}
	return m
}

// changed is the model of three, with a change.
func changed(change func(m *Model)) Model {
	m := three()
	change(&m)
	return m
}

// rights are models that may be.
func rights() map[string]Model {
	return map[string]Model{
		"three":                        three(),
		"zero":                         {},
		"empty lists":                  {[]string{}, []rat.Rat{}, []Row{}},
		"no variables":                 {Rows: []Row{{"a", nil, 0, one("1")}, {"b", []rat.Rat{}, 1, one("-1")}}},
		"no rows":                      changed(func(m *Model) { m.Rows = nil }),
		"empty rows":                   changed(func(m *Model) { m.Rows = []Row{} }),
		"60 of both":                   many(60, 60),
		"60 variables":                 many(60, 0),
		"60 rows":                      many(0, 60),
		"told otherwise":               allOtherwise(three()),
		"zero fractions":               {[]string{"a"}, []rat.Rat{{}}, []Row{{Name: "a", Coef: []rat.Rat{{}}}}},
		"longest names":                {[]string{strings.Repeat("a", 16), strings.Repeat("a", 15)}, row("1 2"), []Row{{strings.Repeat("a", 16), row("1 2"), 0, one("1")}}},
		"names of its text":            {[]string{"min", "x"}, row("1 2"), []Row{{"min", row("1 2"), 0, one("1")}}},
		"a row's name is a variable's": changed(func(m *Model) { m.Rows[0].Name = "y_1" }),
		"numbers below 0":              {[]string{"x", "y"}, row("-1 -1/2"), []Row{{"r", row("-3 -4/5"), 1, one("-6")}}},
	}
}

// wrongs are models that may not be.
func wrongs() map[string]Model {
	all := map[string]Model{
		"a variable twice":             changed(func(m *Model) { m.Vars[2] = "x" }),
		"next to one another twice":    changed(func(m *Model) { m.Vars[1] = "x" }),
		"a row twice":                  changed(func(m *Model) { m.Rows[2].Name = "cap" }),
		"rows next to another twice":   changed(func(m *Model) { m.Rows[2].Name = "all" }),
		"fewer costs":                  changed(func(m *Model) { m.Cost = m.Cost[:2] }),
		"more costs":                   changed(func(m *Model) { m.Cost = row("1 2 3 4") }),
		"no costs":                     changed(func(m *Model) { m.Cost = nil }),
		"fewer variables":              changed(func(m *Model) { m.Vars = m.Vars[:2] }),
		"no variables, and long rows":  changed(func(m *Model) { m.Vars, m.Cost = nil, nil }),
		"a cost alone":                 {Cost: row("1")},
		"a variable alone":             {Vars: []string{"x"}},
		"a row without a name":         {Rows: []Row{{}}},
		"61 variables":                 many(61, 0),
		"61 variables, and 60 rows":    many(61, 60),
		"61 rows":                      many(0, 61),
		"61 rows, and 60 variables":    many(60, 61),
		"many variables":               many(5000, 0),
		"many rows":                    many(1, 5000),
		"many variables, no costs":     {Vars: make([]string, 1<<20)},
		"many rows that say nothing":   {Rows: make([]Row, 1<<20)},
		"many costs, and no variables": {Cost: make([]rat.Rat, 1<<20)},
	}
	for k := range 3 {
		for _, long := range []int{0, 1, 2, 4, 5, 61} {
			all[fmt.Sprint("row ", k, " of length ", long)] = changed(func(m *Model) { m.Rows[k].Coef = vec.Ints(make([]int, long)...) })
		}
		for _, rel := range []int{-2, 2, 3, -3, 10, 256, -255, math.MaxInt, math.MinInt} {
			all[fmt.Sprint("row ", k, " with a Rel ", rel)] = changed(func(m *Model) { m.Rows[k].Rel = rel })
		}
		for _, s := range []string{"", "X", "1x", "_", "x y", "x ", " x", "x:", "x\n", "-", "0", "é", "x\xff", strings.Repeat("a", 17)} {
			all[fmt.Sprintf("row %d named %q", k, s)] = changed(func(m *Model) { m.Rows[k].Name = s })
			all[fmt.Sprintf("variable %d named %q", k, s)] = changed(func(m *Model) { m.Vars[k] = s })
		}
	}
	return all
}

// P8.1, Right

func TestRight(t *testing.T) {
	for name, m := range rights() {
		if !Right(m) {
			t.Errorf("Right, %s: false", name)
		}
	}
	for name, m := range wrongs() {
		if Right(m) {
			t.Errorf("Right, %s: true", name)
		}
	}
	if api.MaxVars != 60 || api.MaxRows != 60 {
		t.Errorf("MaxVars %d, MaxRows %d", api.MaxVars, api.MaxRows)
	}
}

// P8.2, Same

func TestSame(t *testing.T) {
	for name, m := range rights() {
		if !Same(m, m) || !Same(m, allOtherwise(m)) || !Same(allOtherwise(m), m) {
			t.Errorf("Same, %s: not the same as itself, told otherwise", name)
		}
	}
	for name, m := range wrongs() {
		if !Same(m, m) {
			t.Errorf("Same, %s: not the same as itself", name)
		}
	}
	if !Same(Model{}, Model{[]string{}, []rat.Rat{}, []Row{}}) || !Same(Model{Rows: []Row{{}}}, Model{Rows: []Row{{Coef: []rat.Rat{}}}}) {
		t.Error("Same tells nil from empty")
	}
}

// Models that are not the same in one place.
func TestSameOfOthers(t *testing.T) {
	all := []Model{three(), {}, many(3, 3), many(60, 60)}
	for k := range 3 {
		all = append(all,
			changed(func(m *Model) { m.Vars[k] = "other" }),
			changed(func(m *Model) { m.Vars[k] = "" }),
			changed(func(m *Model) { m.Cost[k] = one("17") }),
			changed(func(m *Model) { m.Cost[k] = rat.Add(m.Cost[k], one("1/1000000000000000000000")) }),
			changed(func(m *Model) { m.Rows[k].Name = "other" }),
			changed(func(m *Model) { m.Rows[k].Name = "" }),
			changed(func(m *Model) { m.Rows[k].Rel = (m.Rows[k].Rel+2)%3 - 1 }),
			changed(func(m *Model) { m.Rows[k].Rel += 5 }),
			changed(func(m *Model) { m.Rows[k].B = one("17") }),
			changed(func(m *Model) { m.Rows[k].B = rat.Sub(m.Rows[k].B, one("1/3")) }),
			changed(func(m *Model) { m.Rows[k].Coef = m.Rows[k].Coef[:2] }),
			changed(func(m *Model) { m.Rows[k].Coef = append(m.Rows[k].Coef, rat.Int(0)) }),
		)
		for i := range 3 {
			all = append(all, changed(func(m *Model) { m.Rows[k].Coef[i] = one("17") }))
		}
	}
	all = append(all,
		changed(func(m *Model) { m.Vars = m.Vars[:2] }),
		changed(func(m *Model) { m.Vars = append(m.Vars, "more") }),
		changed(func(m *Model) { m.Cost = m.Cost[:2] }),
		changed(func(m *Model) { m.Cost = append(m.Cost, rat.Int(0)) }),
		changed(func(m *Model) { m.Rows = m.Rows[:2] }),
		changed(func(m *Model) { m.Rows = m.Rows[1:] }),
		changed(func(m *Model) { m.Rows = nil }),
		changed(func(m *Model) { m.Rows = append(m.Rows, Row{}) }),
		changed(func(m *Model) { m.Vars[0], m.Vars[1] = m.Vars[1], m.Vars[0] }),
		changed(func(m *Model) { m.Rows[0], m.Rows[1] = m.Rows[1], m.Rows[0] }),
		changed(func(m *Model) { m.Cost[0] = rat.Neg(m.Cost[0]) }),
	)
	for i, a := range all {
		for k, b := range all {
			if got := Same(a, b); got != (shown(a) == shown(b)) || got != Same(b, a) {
				t.Errorf("Same of %d and %d: %v: %s, %s", i, k, got, shown(a), shown(b))
			}
			if i > 0 && k == 0 && Same(a, b) {
				t.Errorf("Same of %d and the model without a change: true: %s", i, shown(a))
			}
		}
	}
}

// P8.2, Feasible and Value

func TestFeasible(t *testing.T) {
	border := func(rel int) Model {
		return Model{[]string{"x", "y"}, row("1 1"), []Row{{"r", row("2 -1/3"), rel, one("5/3")}}}
	}
	below, on, above := row("1 4/3"), row("1 1"), row("1 2/3")
	for _, c := range []struct {
		rel              int
		below, on, above bool
	}{
		{-1, true, true, false}, {0, false, true, false}, {1, false, true, true},
		{-2, true, true, false}, {2, false, true, true}, {-100, true, true, false}, {100, false, true, true},
		{math.MinInt, true, true, false}, {math.MaxInt, false, true, true},
	} {
		m := border(c.rel)
		if Feasible(m, below) != c.below || Feasible(m, on) != c.on || Feasible(m, above) != c.above {
			t.Errorf("Feasible, Rel %d: %v %v %v, want %v", c.rel, Feasible(m, below), Feasible(m, on), Feasible(m, above), c)
		}
	}
	little := one("1/123456789012345678901234567890")
	for rel := -1; rel <= 1; rel++ {
		m := Model{[]string{"x"}, row("1"), []Row{{"r", row("1"), rel, one("7/3")}}}
		for side := -1; side <= 1; side++ {
			x := rat.Add(one("7/3"), rat.Mul(rat.Int(side), little))
			if want := side == 0 || side == rel; Feasible(m, []rat.Rat{x}) != want || Feasible(m, []rat.Rat{otherwise(x, 0)}) != want {
				t.Errorf("Feasible, Rel %d, a little (%d) off its border: want %v", rel, side, want)
			}
		}
	}
}

func TestFeasibleOfLengthsAndSigns(t *testing.T) {
	free := Model{Vars: []string{"x", "y"}}
	for words, want := range map[string]bool{
		"": false, "0": false, "1": false, "0 0": true, "1 2": true, "1/2 0": true, "0 0 0": false, "1 2 3": false, "-1 0": false, "0 -1": false, "-1 -1": false, "-1/1000000000000 5": false, "0 0 -1": false, "-1": false,
	} {
		if Feasible(free, row(words)) != want {
			t.Errorf("Feasible of %q: want %v", words, want)
		}
	}
	if !Feasible(free, []rat.Rat{{}, {Num: whole.Int{Minus: true, Size: nat.Nat{0}}}}) {
		t.Error("Feasible of a 0 with Minus: false")
	}
	if Feasible(free, []rat.Rat{{Num: whole.Int{Minus: true, Size: nat.Nat{3}}, Den: nat.Nat{0}}, {}}) {
		t.Error("Feasible of a -3 by 0, that stands for -3: true")
	}
	if !Feasible(Model{}, nil) || !Feasible(Model{}, []rat.Rat{}) || Feasible(Model{}, row("0")) || Feasible(Model{}, row("1")) {
		t.Error("Feasible without variables")
	}
	if Feasible(many(61, 0), make([]rat.Rat, 60)) || !Feasible(many(61, 0), make([]rat.Rat, 61)) {
		t.Error("Feasible of 61 variables")
	}
	for b, want := range map[string][3]bool{"-1": {false, false, true}, "0": {true, true, true}, "1": {true, false, false}} {
		for rel := -1; rel <= 1; rel++ {
			if Feasible(Model{Rows: []Row{{"r", nil, rel, one(b)}}}, nil) != want[rel+1] {
				t.Errorf("Feasible, no numbers, Rel %d, B %s: want %v", rel, b, want[rel+1])
			}
		}
	}
}

// Each row counts, the last one, too.
func TestFeasibleOfEachRow(t *testing.T) {
	m := many(2, 60)
	for k := range m.Rows {
		m.Rows[k].Coef, m.Rows[k].Rel, m.Rows[k].B = row("1 1"), 0, one("3")
	}
	if !Feasible(m, row("1 2")) {
		t.Error("Feasible of 60 rows that are so: false")
	}
	for k := range m.Rows {
		m.Rows[k].B = one("4")
		if Feasible(m, row("1 2")) {
			t.Errorf("Feasible, row %d is not so: true", k)
		}
		m.Rows[k].B = one("3")
	}
}

func exact(a rat.Rat) *big.Rat {
	b, _ := new(big.Rat).SetString(rat.Text(a))
	return b
}

// dot is the sum of products of all that both have, by other arithmetic than the program's own.
func dot(a, b []rat.Rat) *big.Rat {
	sum := new(big.Rat)
	for k := range min(len(a), len(b)) {
		sum.Add(sum, new(big.Rat).Mul(exact(a[k]), exact(b[k])))
	}
	return sum
}

func feasible(m Model, x []rat.Rat) bool {
	is := len(x) == len(m.Vars)
	for _, v := range x {
		is = is && exact(v).Sign() >= 0
	}
	for _, r := range m.Rows {
		side := dot(r.Coef, x).Cmp(exact(r.B))
		is = is && (side == 0 || side < 0 && r.Rel < 0 || side > 0 && r.Rel > 0)
	}
	return is
}

// Models that may be, and others, against other arithmetic.
func TestFeasibleAndValueOfAnyModel(t *testing.T) {
	some := source(1)
	said := map[bool]int{}
	for range 3000 {
		m := some.anyModel()
		for range 3 {
			x := some.row(max(0, len(m.Vars)+some.upTo(5)/4), some.atLeast(-1))
			if len(m.Rows) > 0 && some.upTo(2) == 0 {
				r := &m.Rows[some.upTo(len(m.Rows))]
				r.B = vec.Dot(r.Coef, x)
			}
			got := Feasible(m, x)
			said[got]++
			if got != feasible(m, x) {
				t.Fatalf("Feasible of %v, %v: %v", shown(m), vec.Texts(x), got)
			}
			if v := Value(m, x); !rat.Right(v) || exact(v).Cmp(dot(m.Cost, x)) != 0 {
				t.Fatalf("Value of %v, %v: %s", shown(m), vec.Texts(x), rat.Text(v))
			}
		}
	}
	if said[true] < 500 || said[false] < 500 {
		t.Errorf("too few of a kind were tried: %v", said)
	}
}

func TestValue(t *testing.T) {
	for _, c := range [][3]string{
		{"1 -2", "3 1/2", "2"}, {"1 -2", "", "0"}, {"", "1 2", "0"}, {"", "", "0"}, {"1 -2", "3", "3"}, {"1", "3 4 5", "3"}, {"1 -2", "-3 -4", "5"}, {"0 0", "7 8", "0"}, {"1/3 1/6", "1 1", "1/2"}, {"2 3", "-1 -1/3", "-3"},
	} {
		m := Model{Cost: row(c[0])}
		if v := Value(m, row(c[1])); rat.Text(v) != c[2] || !rat.Right(v) {
			t.Errorf("Value of %q and %q: %s, want %s", c[0], c[1], rat.Text(v), c[2])
		}
	}
	// Rows and variables have no say.
	if v := Value(changed(func(m *Model) { m.Vars = nil }), row("1 2 3")); rat.Text(v) != "2" {
		t.Errorf("Value without variables: %s", rat.Text(v))
	}
}
