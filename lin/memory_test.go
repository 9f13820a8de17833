package lin

import (
	"slices"
	"testing"

	"offcut/nat"
	"offcut/rat"
	"offcut/vec"
)

const sentinel = 0xdeadbeef

// words is a number with room behind its end.
func words(a nat.Nat, room int) nat.Nat {
	row := slices.Clone(a)
	for range room {
		row = append(row, sentinel)
	}
	return row[:len(a)]
}

func roomy(a rat.Rat, room int) rat.Rat {
	return fraction(a.Num.Minus, words(a.Num.Size, room), words(a.Den, room))
}

// roomyRow is a row with fractions behind its end, too.
func roomyRow(a []rat.Rat, room int) []rat.Rat {
	var row []rat.Rat
	for _, v := range a {
		row = append(row, roomy(v, room))
	}
	for range room {
		row = append(row, roomy(rat.Int(sentinel), room))
	}
	return row[:len(a)]
}

// roomyRows is a matrix with rows behind its end, too.
func roomyRows(m [][]rat.Rat, room int) [][]rat.Rat {
	var rows [][]rat.Rat
	for _, row := range m {
		rows = append(rows, roomyRow(row, room))
	}
	for range room {
		rows = append(rows, roomyRow(vec.Ints(sentinel, 1), room))
	}
	return rows[:len(m)]
}

// imprint is all that a row has in its memory, the room behind its end and behind its numbers' ends too.
func imprint(a []rat.Rat) []int {
	out := []int{len(a), cap(a)}
	for _, v := range a[:cap(a)] {
		minus := 0
		if v.Num.Minus {
			minus = 1
		}
		out = append(out, minus)
		for _, row := range []nat.Nat{v.Num.Size, v.Den} {
			out = append(out, len(row), cap(row))
			for _, word := range row[:cap(row)] {
				out = append(out, int(word))
			}
		}
	}
	return out
}

func imprintRows(m [][]rat.Rat) []int {
	out := []int{len(m), cap(m)}
	for _, row := range m[:cap(m)] {
		out = append(out, imprint(row)...)
	}
	return out
}

// answer is all lists that a call answers.
type answer struct {
	rows   [][]rat.Rat
	row    []rat.Rat
	places []int
}

func (a answer) imprint() []int {
	return slices.Concat(imprintRows(a.rows), imprint(a.row), a.places[:cap(a.places)])
}

func (a answer) same(b answer) bool {
	return slices.EqualFunc(a.rows, b.rows, vec.Same) && vec.Same(a.row, b.row) && slices.Equal(a.places, b.places)
}

// lists is all lists of fractions, with their spare room.
func (a answer) lists() [][]rat.Rat {
	lists := [][]rat.Rat{a.row[:cap(a.row)]}
	for _, row := range a.rows[:cap(a.rows)] {
		lists = append(lists, row[:cap(row)])
	}
	return lists
}

// fill writes into the spare room of the numbers, and over the lists and their spare room: the numbers' own words may be shared.
// It tells whether each list kept what was written into it, so that none is shared with another one.
func (a answer) fill() bool {
	lists := a.lists()
	for k, list := range lists {
		for i, v := range list {
			for _, row := range []nat.Nat{v.Num.Size, v.Den} {
				for place := len(row); place < cap(row); place++ {
					row[:cap(row)][place] = 0xa5a5a5a5
				}
			}
			list[i] = rat.Int(-77 - k)
		}
	}
	for k, list := range lists {
		if slices.ContainsFunc(list, func(v rat.Rat) bool { return rat.Compare(v, rat.Int(-77-k)) != 0 }) {
			return false
		}
	}
	for k := range a.rows[:cap(a.rows)] {
		a.rows[:cap(a.rows)][k] = nil
	}
	for k := range a.places[:cap(a.places)] {
		a.places[:cap(a.places)][k] = -77
	}
	return true
}

// calls are all calls, each with what it answers.
func calls() map[string]func(m [][]rat.Rat, b []rat.Rat) answer {
	return map[string]func(m [][]rat.Rat, b []rat.Rat) answer{
		"Sides": func(m [][]rat.Rat, _ []rat.Rat) answer { Sides(m); return answer{} },
		"Turn":  func(m [][]rat.Rat, _ []rat.Rat) answer { return answer{rows: Turn(m)} },
		"Rank":  func(m [][]rat.Rat, _ []rat.Rat) answer { return answer{places: []int{Rank(m)}} },
		"Apply": func(m [][]rat.Rat, b []rat.Rat) answer {
			row, _ := Apply(m, b)
			return answer{row: row}
		},
		"Solve": func(m [][]rat.Rat, b []rat.Rat) answer {
			row, _ := Solve(m, b)
			return answer{row: row}
		},
		"Reduce": func(m [][]rat.Rat, _ []rat.Rat) answer {
			rows, places := Reduce(m)
			return answer{rows: rows, places: places}
		},
	}
}

// withRows hands over matrices, each with a row that goes with it.
func withRows(use func(m [][]rat.Rat, b []rat.Rat)) {
	s := source(66)
	all := append(someMatrices(), nil, [][]rat.Rat{{}, {}}, matrix([]int{1}, []int{1, 2}), scattered(5, 5), scattered(7, 3))
	for _, m := range all {
		long := 2
		if len(m) > 0 {
			long = len(m[0])
		}
		use(m, s.row(long, s.odd))
	}
}

func TestMemory(t *testing.T) {
	for name, call := range calls() {
		withRows(func(x [][]rat.Rat, y []rat.Rat) {
			m, b := roomyRows(x, 2), roomyRow(y, 3)
			wasM, wasB := imprintRows(m), imprint(b)
			changed := func() bool { return !slices.Equal(imprintRows(m), wasM) || !slices.Equal(imprint(b), wasB) }
			first, second := call(m, b), call(m, b)
			if changed() {
				t.Fatalf("%s changes what is handed in: %v %v", name, x, y)
			}
			if !first.same(call(x, y)) {
				t.Fatalf("%s hangs on the room behind an end: %v %v", name, x, y)
			}
			was := second.imprint()
			if !first.fill() {
				t.Fatalf("%s: two lists of an answer share memory: %v %v", name, x, y)
			}
			if !slices.Equal(second.imprint(), was) {
				t.Fatalf("%s: two answers share memory: %v %v", name, x, y)
			}
			second.fill()
			if changed() {
				t.Fatalf("%s: an answer shares memory with what was handed in: %v %v", name, x, y)
			}
		})
	}
}

// Rows that are pieces of one list, each with the next one behind its end, and b behind the last.
func TestMemoryOfRowsOfOneList(t *testing.T) {
	for name, call := range calls() {
		withRows(func(x [][]rat.Rat, y []rat.Rat) {
			all := append(slices.Concat(x...), y...)
			was := imprint(all)
			var m [][]rat.Rat
			for begin, k := 0, 0; k < len(x); k++ {
				m = append(m, all[begin:begin+len(x[k])])
				begin += len(x[k])
			}
			got := call(m, all[len(all)-len(y):])
			if !slices.Equal(imprint(all), was) {
				t.Fatalf("%s of rows of one list changes them: %v", name, x)
			}
			if !got.same(call(x, y)) {
				t.Fatalf("%s of rows of one list tells something else: %v", name, x)
			}
			if got.fill(); !slices.Equal(imprint(all), was) {
				t.Fatalf("%s of rows of one list shares memory with them: %v", name, x)
			}
		})
	}
}

// One row, handed in as all rows and as b.
func TestMemoryOfOneRow(t *testing.T) {
	s := source(67)
	for name, call := range calls() {
		for long := range 5 {
			row := roomyRow(s.row(long, s.odd), 2)
			was := imprint(row)
			var apart [][]rat.Rat
			for range long {
				apart = append(apart, roomyRow(row, 0))
			}
			got := call(slices.Repeat([][]rat.Rat{row}, long), row)
			if !slices.Equal(imprint(row), was) {
				t.Fatalf("%s of one row changes it: %v", name, row)
			}
			if !got.same(call(apart, roomyRow(row, 0))) {
				t.Fatalf("%s of one row tells something else: %v", name, row)
			}
			if !got.fill() || !slices.Equal(imprint(row), was) {
				t.Fatalf("%s of one row: its answer shares memory: %v", name, row)
			}
		}
	}
}

// What was handed in may be written over later.
func TestNothingIsKept(t *testing.T) {
	for name, call := range calls() {
		withRows(func(x [][]rat.Rat, y []rat.Rat) {
			m, b := roomyRows(x, 0), roomyRow(y, 0)
			got, want := call(m, b), call(x, y)
			for _, row := range append(m, b) {
				clear(row)
			}
			clear(m)
			if !got.same(want) {
				t.Fatalf("%s keeps what is handed in: %v %v", name, x, y)
			}
		})
	}
}

func TestNilAndEmptyAreTheSame(t *testing.T) {
	none, empty := []rat.Rat(nil), []rat.Rat{}
	for name, call := range calls() {
		for _, c := range [][2]answer{
			{call(nil, nil), call([][]rat.Rat{}, empty)}, {call(nil, vec.Ints(1)), call([][]rat.Rat{}, vec.Ints(1))},
			{call([][]rat.Rat{none}, none), call([][]rat.Rat{empty}, empty)}, {call([][]rat.Rat{none, empty}, empty), call([][]rat.Rat{empty, none}, none)},
			{call([][]rat.Rat{none}, vec.Ints(1)), call([][]rat.Rat{empty}, vec.Ints(1))}, {call(matrix([]int{2}), none), call(matrix([]int{2}), empty)},
		} {
			if !c[0].same(c[1]) {
				t.Errorf("%s tells nil from empty: %v and %v", name, c[0], c[1])
			}
		}
	}
}
