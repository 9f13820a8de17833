package notes

import (
	"fmt"
	"math"
	"slices"
	"strings"
	"testing"

	"offcut/api"
	"offcut/model"
	"offcut/nat"
	"offcut/rat"
	"offcut/whole"
)

// The signatures are the document's; these lines do not build with others.
var (
	_ func(model.Model, Notes) bool                     = Right
	_ func(model.Model, string) (Notes, int, api.Errno) = Parse
	_ func(model.Model, Notes) (string, api.Errno)      = Print
	_ func(model.Model, Notes) []int                    = Home
	_ func(model.Model, Notes) []int                    = Rows
	_ func(Notes, Notes) bool                           = Same
	_                                                   = struct{ Blocks [][]int }(Notes{})
)

// read is a model, told as a text.
func read(text string) model.Model {
	m, at, e := model.Parse(text)
	if e != api.OK {
		panic(fmt.Sprintf("a test's model is none: line %d of %q", at, text))
	}
	return m
}

// of is a model of variables with these names, and no rows.
func of(names string) model.Model {
	all := strings.Fields(names)
	if len(all) == 0 {
		return read("min 0")
	}
	return read("min " + strings.Join(all, " + "))
}

// many is a model of as many variables, v0, v1 and so on, and as many rows, each of them with one variable.
func many(vars, rows int) model.Model {
	var m model.Model
	for k := range vars {
		m.Vars = append(m.Vars, fmt.Sprint("v", k))
		m.Cost = append(m.Cost, rat.Int(k))
	}
	for k := range rows {
		coef := make([]rat.Rat, vars)
		for i := range coef {
			coef[i] = rat.Int(0)
		}
		if vars > 0 {
			coef[k%vars] = rat.Int(k - 100)
		}
		m.Rows = append(m.Rows, model.Row{Name: fmt.Sprint("r", k), Coef: coef, Rel: k%3 - 1, B: rat.Int(-k)})
	}
	return m
}

// blocks are notes, told as a text of another kind than the program's own: places, blocks apart by a bar.
func blocks(text string) Notes {
	var n Notes
	if text == "" {
		return n
	}
	for _, piece := range strings.Split(text, "|") {
		var block []int
		for _, s := range strings.Fields(piece) {
			var at int
			fmt.Sscan(s, &at)
			block = append(block, at)
		}
		n.Blocks = append(n.Blocks, block)
	}
	return n
}

// shown is all that notes say, as a text.
func shown(n Notes) string {
	var all []string
	for _, block := range n.Blocks {
		all = append(all, strings.Trim(fmt.Sprint(block), "[]"))
	}
	return strings.Join(all, "|")
}

// partitions are all notes that may be, of as many variables: each one in no block, in one that was begun, or in the next one.
func partitions(vars int) []Notes {
	all := []Notes{{}}
	for at := range vars {
		var longer []Notes
		for _, n := range all {
			longer = append(longer, n)
			for k := range len(n.Blocks) + 1 {
				var with Notes
				for _, block := range n.Blocks {
					with.Blocks = append(with.Blocks, slices.Clone(block))
				}
				if k == len(n.Blocks) {
					with.Blocks = append(with.Blocks, nil)
				}
				with.Blocks[k] = append(with.Blocks[k], at)
				longer = append(longer, with)
			}
		}
		all = longer
	}
	return all
}

// wrongModels are models that may not be.
func wrongModels() map[string]model.Model {
	all := map[string]model.Model{
		"a variable twice":    {Vars: []string{"x", "x"}, Cost: make([]rat.Rat, 2)},
		"a variable, no cost": {Vars: []string{"x"}},
		"a cost alone":        {Cost: make([]rat.Rat, 1)},
		"no name":             {Vars: []string{""}, Cost: make([]rat.Rat, 1)},
		"a name that is none": {Vars: []string{"x", "Y"}, Cost: make([]rat.Rat, 2)},
		"61 variables":        many(61, 0),
		"61 rows":             many(2, 61),
		"a row without name":  {Vars: []string{"x"}, Cost: make([]rat.Rat, 1), Rows: []model.Row{{Coef: make([]rat.Rat, 1)}}},
	}
	for name, change := range map[string]func(r *model.Row){
		"a row that is shorter": func(r *model.Row) { r.Coef = r.Coef[:2] },
		"a row that is longer":  func(r *model.Row) { r.Coef = append(r.Coef, rat.Int(1)) },
		"a row of none":         func(r *model.Row) { r.Coef = nil },
		"a Rel of 2":            func(r *model.Row) { r.Rel = 2 },
		"a Rel of -2":           func(r *model.Row) { r.Rel = -2 },
		"a row's name twice":    func(r *model.Row) { r.Name = "b" },
	} {
		m := read("min x + y + z\na: x = 1\nb: y = 2")
		change(&m.Rows[0])
		all[name] = m
	}
	return all
}

// wrongNotes are notes that may not be, to models of three variables.
func wrongNotes() map[string]Notes {
	return map[string]Notes{
		"an empty block":                    {[][]int{{}}},
		"a nil block":                       {[][]int{nil}},
		"an empty block behind another one": {[][]int{{0}, {}}},
		"an empty block ahead":              {[][]int{{}, {0, 1}}},
		"an empty block between":            {[][]int{{0}, nil, {1, 2}}},
		"many empty blocks":                 {make([][]int, 1<<20)},
		"a place twice in a block":          blocks("0 0"),
		"a place twice at a block's end":    blocks("0 1 1"),
		"a place twice, apart":              blocks("0 1 0"),
		"a place in two blocks":             blocks("0 1|1"),
		"a place in two blocks, first":      blocks("0|0 1"),
		"a place in two blocks, last":       blocks("0 2|1 2"),
		"a block twice":                     blocks("1|1"),
		"all of a block twice":              blocks("0 1 2|0 1 2"),
		"a block's places in another one":   blocks("0 1 2|1 2"),
		"a place in the first and third":    blocks("0 2|1|2"),
		"places that fall":                  blocks("1 0"),
		"places that fall at the end":       blocks("0 2 1"),
		"places that fall, in the second":   blocks("0|2 1"),
		"blocks that fall":                  blocks("1|0"),
		"blocks that fall, longer ones":     blocks("1 2|0"),
		"blocks that fall at the end":       blocks("0|2|1"),
		"places below 0":                    blocks("-1"),
		"a place below 0, and others":       blocks("-1 0 1"),
		"a block below 0, ahead":            blocks("-1|0"),
		"a place below 0, behind":           blocks("0 -1"),
		"a place below 0 in the second":     blocks("0|-1"),
		"a place far below 0":               {[][]int{{math.MinInt}}},
		"a place far below 0, and others":   {[][]int{{math.MinInt, 0, 2}}},
		"a place beyond":                    blocks("3"),
		"a place beyond, behind others":     blocks("0 1 2 3"),
		"a place beyond in the second":      blocks("0|1 3"),
		"a block beyond":                    blocks("0|3"),
		"a place far beyond":                {[][]int{{math.MaxInt}}},
		"a place far beyond, behind others": {[][]int{{0, 1, math.MaxInt}}},
		"four blocks":                       blocks("0|1|2|3"),
		"a place of 32 bits":                {[][]int{{1 << 32}}},
		"many places":                       {[][]int{make([]int, 1<<20)}},
		"many blocks of the same":           {slices.Repeat([][]int{{0, 1, 2}}, 1<<20)},
	}
}

// P9.1, Right

func TestRight(t *testing.T) {
	three := of("x y z")
	for _, text := range []string{"", "0", "1", "2", "0 1", "0 2", "1 2", "0 1 2", "0|1", "0|2", "1|2", "0 1|2", "0 2|1", "0|1 2", "0|1|2"} {
		if !Right(three, blocks(text)) {
			t.Errorf("Right, %q: false", text)
		}
	}
	for name, n := range wrongNotes() {
		if Right(three, n) {
			t.Errorf("Right, %s: true", name)
		}
	}
	for name, m := range wrongModels() {
		for _, n := range []Notes{{}, {[][]int{}}, blocks("0")} {
			if Right(m, n) {
				t.Errorf("Right, %s, notes %q: true", name, shown(n))
			}
		}
	}
}

func TestRightOfNothing(t *testing.T) {
	for _, m := range []model.Model{{}, of(""), read("min 0\na: 0 = 1"), {Vars: []string{}, Cost: []rat.Rat{}, Rows: []model.Row{}}} {
		if !Right(m, Notes{}) || !Right(m, Notes{[][]int{}}) {
			t.Error("Right of no notes to a model of no variables: false")
		}
		for _, n := range []Notes{{[][]int{nil}}, {[][]int{{}}}, blocks("0"), blocks("-1")} {
			if Right(m, n) {
				t.Errorf("Right of %q to a model of no variables: true", shown(n))
			}
		}
	}
}

// Every three lists of up to three places from -1 on, held against all notes that may be.
func TestRightOfAllShortNotes(t *testing.T) {
	const vars = 2
	may := map[string]int{}
	for _, n := range partitions(vars) {
		may[fmt.Sprint(n.Blocks)]++
	}
	lists := [][]int{nil}
	for from := 0; len(lists) < 1+4+16+64; from++ {
		for at := -1; at <= vars; at++ {
			lists = append(lists, append(slices.Clone(lists[from]), at))
		}
	}
	m, found := of("x y"), 0
	check := func(n Notes) {
		want := may[fmt.Sprint(n.Blocks)] > 0
		if got := Right(m, n); got != want {
			t.Fatalf("Right of %v: %v", n.Blocks, got)
		}
		if want {
			found++
		}
	}
	check(Notes{})
	for _, a := range lists {
		check(Notes{[][]int{a}})
		for _, b := range lists {
			check(Notes{[][]int{a, b}})
			for _, c := range lists {
				check(Notes{[][]int{a, b, c}})
			}
		}
	}
	if found != len(may) || found != 5 {
		t.Errorf("%d notes to two variables may be, found %d", len(may), found)
	}
}

func TestRightOfManyVariables(t *testing.T) {
	m := many(60, 60)
	var one, apart Notes
	one.Blocks = [][]int{nil}
	for k := range 60 {
		one.Blocks[0] = append(one.Blocks[0], k)
		apart.Blocks = append(apart.Blocks, []int{k})
	}
	if !Right(m, one) || !Right(m, apart) {
		t.Errorf("Right of 60 variables: %v, %v", Right(m, one), Right(m, apart))
	}
	one.Blocks[0] = append(one.Blocks[0], 60)
	apart.Blocks = append(apart.Blocks, []int{60})
	if Right(m, one) || Right(m, apart) {
		t.Errorf("Right of a 61st place: %v, %v", Right(m, one), Right(m, apart))
	}
	for _, n := range partitions(6) {
		if !Right(m, n) || Right(of("a b c d e"), n) != !strings.Contains(shown(n), "5") {
			t.Errorf("Right of %q: %v to 60, %v to 5", shown(n), Right(m, n), Right(of("a b c d e"), n))
		}
	}
}

// P9.1, Same

func TestSame(t *testing.T) {
	all := partitions(4)
	for _, n := range wrongNotes() {
		all = append(all, n)
	}
	all = append(all, blocks("0 1|2 3 4"), blocks("0 1 2|3 4"), blocks("4|3"), blocks("3|4"), blocks("0 2|1 3"), blocks("1 3|0 2"), blocks("0 12"), blocks("01 2"))
	short := slices.DeleteFunc(all, func(n Notes) bool {
		return len(n.Blocks) > 99 || slices.ContainsFunc(n.Blocks, func(b []int) bool { return len(b) > 99 })
	})
	for i, a := range short {
		for k, b := range short {
			if got := Same(a, b); got != (fmt.Sprint(a.Blocks) == fmt.Sprint(b.Blocks)) {
				t.Errorf("Same of %d and %d: %v: %v, %v", i, k, got, a.Blocks, b.Blocks)
			}
		}
	}
}

func TestSameOfOthers(t *testing.T) {
	n := func() Notes { return blocks("0 3|1 5 7|2") }
	if !Same(n(), n()) {
		t.Error("Same, of the same: false")
	}
	for name, change := range map[string]func(n *Notes){
		"a place":               func(n *Notes) { n.Blocks[1][1] = 6 },
		"a first place":         func(n *Notes) { n.Blocks[0][0] = 4 },
		"a last place":          func(n *Notes) { n.Blocks[2][0] = 9 },
		"a place's sign":        func(n *Notes) { n.Blocks[2][0] = -2 },
		"a place, by 2^32":      func(n *Notes) { n.Blocks[2][0] += 1 << 32 },
		"a shorter block":       func(n *Notes) { n.Blocks[1] = n.Blocks[1][:2] },
		"a longer block":        func(n *Notes) { n.Blocks[2] = append(n.Blocks[2], 0) },
		"an empty block":        func(n *Notes) { n.Blocks[0] = nil },
		"the order in a block":  func(n *Notes) { slices.Reverse(n.Blocks[0]) },
		"the order of blocks":   func(n *Notes) { slices.Reverse(n.Blocks) },
		"two blocks":            func(n *Notes) { n.Blocks[1], n.Blocks[2] = n.Blocks[2], n.Blocks[1] },
		"a block more":          func(n *Notes) { n.Blocks = append(n.Blocks, []int{4}) },
		"an empty block more":   func(n *Notes) { n.Blocks = append(n.Blocks, nil) },
		"a block less":          func(n *Notes) { n.Blocks = n.Blocks[:2] },
		"the first block less":  func(n *Notes) { n.Blocks = n.Blocks[1:] },
		"no blocks":             func(n *Notes) { n.Blocks = nil },
		"two blocks as one":     func(n *Notes) { n.Blocks = [][]int{{0, 3}, {1, 5, 7, 2}} },
		"where a block is over": func(n *Notes) { n.Blocks = [][]int{{0, 3}, {1, 5}, {7, 2}} },
	} {
		other := n()
		change(&other)
		if Same(n(), other) || Same(other, n()) || !Same(other, other) {
			t.Errorf("Same, %s: %v, %v, %v", name, Same(n(), other), Same(other, n()), Same(other, other))
		}
	}
	if !Same(Notes{}, Notes{[][]int{}}) || !Same(Notes{[][]int{}}, Notes{}) || !Same(Notes{[][]int{nil}}, Notes{[][]int{{}}}) || !Same(Notes{[][]int{{}}}, Notes{[][]int{nil}}) {
		t.Error("Same tells nil from empty")
	}
	if Same(Notes{}, Notes{[][]int{nil}}) || Same(Notes{[][]int{{}}}, Notes{}) {
		t.Error("Same takes an empty block for none")
	}
}

// P9.2, Home and Rows

// homesOf is Home, in another way than the program's own.
func homesOf(m model.Model, n Notes) []int {
	all := []int{}
	for at := range m.Vars {
		all = append(all, slices.IndexFunc(n.Blocks, func(block []int) bool { return slices.Contains(block, at) }))
	}
	return all
}

// rowsOf is Rows, in another way than the program's own.
func rowsOf(m model.Model, n Notes) []int {
	all := []int{}
	for _, r := range m.Rows {
		has := map[int]int{}
		for at, v := range r.Coef {
			if rat.Text(v) != "0" {
				has[at] = 1
			}
		}
		all = append(all, slices.IndexFunc(n.Blocks, func(block []int) bool {
			in := 0
			for _, at := range block {
				in += has[at]
			}
			return in > 0 && in == len(has)
		}))
	}
	return all
}

func wantPlaces(t *testing.T, what string, got, want []int) {
	t.Helper()
	if !slices.Equal(got, want) {
		t.Errorf("%s: %v, want %v", what, got, want)
	}
}

func TestHome(t *testing.T) {
	m := of("x y z w")
	for text, want := range map[string][]int{
		"": {-1, -1, -1, -1}, "0": {0, -1, -1, -1}, "3": {-1, -1, -1, 0}, "0 1|2": {0, 0, 1, -1}, "0 1 2 3": {0, 0, 0, 0}, "0|1|2|3": {0, 1, 2, 3}, "0 3|1 2": {0, 1, 1, 0}, "1|2": {-1, 0, 1, -1}, "1 3|2": {-1, 0, 1, 0},
	} {
		wantPlaces(t, "Home of "+text, Home(m, blocks(text)), want)
	}
	for _, n := range partitions(5) {
		for _, m := range []model.Model{of("a b c d e"), of("a b c d e f g"), many(60, 60)} {
			wantPlaces(t, "Home of "+shown(n), Home(m, n), homesOf(m, n))
		}
	}
	wantPlaces(t, "Home of no variables", Home(read("min 0\na: 0 = 1"), Notes{}), nil)
}

func TestRows(t *testing.T) {
	for _, c := range []struct {
		row  string
		want map[string]int
	}{
		{"0", map[string]int{"": -1, "0": -1, "0 1|2": -1, "0 1 2 3": -1, "0|1|2|3": -1}},
		{"0 x", map[string]int{"": -1, "0": -1, "0 1|2": -1, "0 1 2 3": -1}},
		{"x", map[string]int{"": -1, "0": 0, "1": -1, "0 1|2": 0, "1|2": -1, "0|1|2|3": 0, "0 1 2 3": 0}},
		{"z", map[string]int{"": -1, "0": -1, "0|1 2": 1, "0 1|2": 1, "0|1|2|3": 2, "0|1|3": -1, "2": 0}},
		{"w", map[string]int{"": -1, "0|1|2|3": 3, "0 1 2 3": 0, "0 1|2 3": 1, "0 3|1": 0, "0 1 2": -1}},
		{"x + y", map[string]int{"": -1, "0": -1, "1": -1, "0 1": 0, "0|1": -1, "0 1|2": 0, "0 2|1": -1, "0 1 2 3": 0, "0 1 2|3": 0}},
		{"x + z", map[string]int{"0 1": -1, "0 1|2": -1, "0 2": 0, "0 2|1": 0, "0|1 2": -1, "0 1 2": 0, "2": -1}},
		{"y + w", map[string]int{"0|1 3": 1, "0 2|1 3": 1, "0|1|3": -1, "1": -1, "3": -1, "0|1 2 3": 1}},
		{"0 x + y", map[string]int{"0": -1, "1": 0, "0|1": 1, "0 1": 0, "0 2|1 3": 1}},
		{"y - 0 z + 0 w", map[string]int{"0|1": 1, "1|2|3": 0, "2|3": -1}},
		{"x - 3 y + 1/2 z - 7/3 w", map[string]int{"0 1 2 3": 0, "0 1 2": -1, "1 2 3": -1, "0|1 2 3": -1, "": -1, "0 1 2|3": -1}},
	} {
		m := read("min x + y + z + w\nr: " + c.row + " <= 5")
		for text, want := range c.want {
			wantPlaces(t, "Rows of "+c.row+", blocks "+text, Rows(m, blocks(text)), []int{want})
		}
	}
	m := read("min x + y + z + w\na: x + y <= 1\nb: z <= 2\nc: x + z <= 3\nd: w <= 4\ne: 0 <= 1\nf: y = 0")
	wantPlaces(t, "Rows", Rows(m, blocks("0 1|2")), []int{0, 1, -1, -1, -1, 0})
	wantPlaces(t, "Rows of no rows", Rows(of("x y"), blocks("0|1")), nil)
	wantPlaces(t, "Rows of no variables", Rows(read("min 0\na: 0 = 1\nb: 0 <= 0"), Notes{}), []int{-1, -1})
	wantPlaces(t, "Rows of nothing", Rows(model.Model{}, Notes{}), nil)
}

// noughts are all ways to tell 0, ones that are not lowest too.
func noughts() []rat.Rat {
	return []rat.Rat{
		{}, rat.Int(0), {Num: whole.Int{Minus: true}}, {Num: whole.Int{Size: nat.Nat{0, 0, 0}}, Den: nat.Of(6)}, {Num: whole.Int{Minus: true, Size: nat.Nat{0}}, Den: nat.Nat{7, 0}}, {Den: nat.Nat{0, 0}},
	}
}

func TestRowsOfNoughts(t *testing.T) {
	for k, nought := range noughts() {
		m := read("min x + y + z\na: x = 1\nb: y = 1\nc: 0 = 1")
		for r := range m.Rows {
			for at, v := range m.Rows[r].Coef {
				if rat.Sign(v) == 0 {
					m.Rows[r].Coef[at] = nought
				}
			}
		}
		wantPlaces(t, fmt.Sprint("Rows with the nought ", k), Rows(m, blocks("0 2|1")), []int{0, 1, -1})
	}
	for k, small := range []rat.Rat{
		{Num: whole.Int{Size: nat.Nat{0, 0, 1}}}, {Num: whole.Int{Minus: true, Size: nat.Nat{1, 0, 0}}, Den: nat.Nat{0, 0, 0, 1}}, {Num: whole.Int{Size: nat.Of(6)}, Den: nat.Of(6)},
	} {
		m := read("min x + y + z\na: x = 1")
		m.Rows[0].Coef[1] = small
		wantPlaces(t, fmt.Sprint("Rows with the small number ", k), Rows(m, blocks("0 2|1")), []int{-1})
		wantPlaces(t, fmt.Sprint("Rows with the small number in the block ", k), Rows(m, blocks("0 1|2")), []int{0})
	}
}

// All rows that have some of five variables, with all notes.
func TestRowsOfAll(t *testing.T) {
	const vars = 5
	m := of("a b c d e")
	some := source(1)
	for set := range 1 << vars {
		coef := make([]rat.Rat, vars)
		for at := range coef {
			coef[at] = some.nought()
			if set>>at&1 == 1 {
				coef[at] = some.number()
			}
		}
		m.Rows = append(m.Rows, model.Row{Name: fmt.Sprint("r", set), Coef: coef, Rel: set%3 - 1})
	}
	all := partitions(vars)
	if len(all) != 203 {
		t.Fatalf("the test's own notes are %d", len(all))
	}
	for _, n := range all {
		wantPlaces(t, "Rows of "+shown(n), Rows(m, n), rowsOf(m, n))
	}
}

func TestHomeAndRowsOfScattered(t *testing.T) {
	some := source(2)
	for range 500 {
		m := some.model(some.upTo(61), some.upTo(61))
		n := some.notes(len(m.Vars))
		if !Right(m, n) {
			t.Fatalf("Right of %q: false", shown(n))
		}
		wantPlaces(t, "Home of "+shown(n), Home(m, n), homesOf(m, n))
		wantPlaces(t, "Rows of "+shown(n), Rows(m, n), rowsOf(m, n))
	}
}

func TestHomeAndRowsOfWhatMayNotBe(t *testing.T) {
	m := read("min x + y + z\na: x + y <= 1\nb: z = 2")
	for name, n := range wrongNotes() {
		if home, rows := Home(m, n), Rows(m, n); len(home) != 0 || len(rows) != 0 {
			t.Errorf("%s: Home tells %d, Rows %d", name, len(home), len(rows))
		}
	}
	for name, m := range wrongModels() {
		for _, n := range []Notes{{}, blocks("0"), blocks("1|0")} {
			if home, rows := Home(m, n), Rows(m, n); len(home) != 0 || len(rows) != 0 {
				t.Errorf("%s: Home tells %d, Rows %d", name, len(home), len(rows))
			}
		}
	}
}
