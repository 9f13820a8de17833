package vec

import (
	"slices"
	"testing"

	"offcut/nat"
	"offcut/rat"
)

const sentinel = 0xdeadbeef

// words is a number with room behind its end.
func words(a nat.Nat, room int) nat.Nat {
	row := slices.Clone(a)
	for range room {
		row = append(row, sentinel)
	}
	return row[:len(a)]
}

func roomy(a rat.Rat, room int) rat.Rat {
	return fraction(a.Num.Minus, words(a.Num.Size, room), words(a.Den, room))
}

// roomyRow is a row with fractions behind its end, too.
func roomyRow(a []rat.Rat, room int) []rat.Rat {
	var row []rat.Rat
	for _, v := range a {
		row = append(row, roomy(v, room))
	}
	for range room {
		row = append(row, roomy(rat.Int(sentinel), room))
	}
	return row[:len(a)]
}

func roomyTerms(l []Term, room int) []Term {
	var row []Term
	for _, t := range l {
		row = append(row, Term{t.At, roomy(t.V, room)})
	}
	for range room {
		row = append(row, Term{sentinel, roomy(rat.Int(sentinel), room)})
	}
	return row[:len(l)]
}

// imprint is all that a row has in its memory, the room behind its end and behind its numbers' ends too.
func imprint(a []rat.Rat) []int {
	out := []int{len(a)}
	for _, v := range a[:cap(a)] {
		minus := 0
		if v.Num.Minus {
			minus = 1
		}
		out = append(out, minus)
		for _, row := range []nat.Nat{v.Num.Size, v.Den} {
			out = append(out, len(row), cap(row))
			for _, word := range row[:cap(row)] {
				out = append(out, int(word))
			}
		}
	}
	return out
}

func imprintTerms(l []Term) []int {
	out := []int{len(l)}
	row := make([]rat.Rat, cap(l))
	for k, t := range l[:cap(l)] {
		out = append(out, t.At)
		row[k] = t.V
	}
	return append(out, imprint(row)...)
}

// answer is all lists that a call answers.
type answer struct {
	row   []rat.Rat
	terms []Term
	texts []string
}

func (a answer) imprint() []int {
	out := append(imprint(a.row), imprintTerms(a.terms)...)
	for _, s := range a.texts[:cap(a.texts)] {
		for _, c := range []byte(s) {
			out = append(out, int(c))
		}
		out = append(out, -1)
	}
	return out
}

// fill writes into the spare room of the numbers, and over the lists and their spare room: the numbers' own words may be shared.
func (a answer) fill() {
	spare := func(v rat.Rat) {
		for _, row := range []nat.Nat{v.Num.Size, v.Den} {
			for k := len(row); k < cap(row); k++ {
				row[:cap(row)][k] = 0xa5a5a5a5
			}
		}
	}
	for k, v := range a.row[:cap(a.row)] {
		spare(v)
		a.row[:cap(a.row)][k] = rat.Int(-77)
	}
	for k, t := range a.terms[:cap(a.terms)] {
		spare(t.V)
		a.terms[:cap(a.terms)][k] = Term{-77, rat.Int(-77)}
	}
	for k := range a.texts[:cap(a.texts)] {
		a.texts[:cap(a.texts)][k] = "written over"
	}
}

// calls are the calls that are handed rows or terms.
func calls() map[string]func(a, b []rat.Rat, l []Term) answer {
	one := func(v rat.Rat) answer { return answer{row: []rat.Rat{v}} }
	return map[string]func(a, b []rat.Rat, l []Term) answer{
		"Pairs":     func(a, b []rat.Rat, _ []Term) answer { return answer{row: listed(Pairs(a, b))} },
		"Dot":       func(a, b []rat.Rat, _ []Term) answer { return one(Dot(a, b)) },
		"Add":       func(a, b []rat.Rat, _ []Term) answer { return answer{row: Add(a, b)} },
		"Scale":     func(a, b []rat.Rat, _ []Term) answer { return answer{row: Scale(a, at(b, 0))} },
		"Same":      func(a, b []rat.Rat, _ []Term) answer { Same(a, b); return answer{} },
		"Zero":      func(a, _ []rat.Rat, _ []Term) answer { Zero(a); return answer{} },
		"Texts":     func(a, _ []rat.Rat, _ []Term) answer { return answer{texts: Texts(a)} },
		"Right":     func(_, _ []rat.Rat, l []Term) answer { Right(l); return answer{} },
		"Sparse":    func(a, _ []rat.Rat, _ []Term) answer { return answer{terms: Sparse(a)} },
		"SparseDot": func(a, _ []rat.Rat, l []Term) answer { return one(SparseDot(l, a)) },
		"Dense": func(_, _ []rat.Rat, l []Term) answer {
			row, _ := Dense(l, 20)
			return answer{row: row}
		},
	}
}

// listed is both of each pair.
func listed(pairs func(yield func(k int, p [2]rat.Rat) bool)) []rat.Rat {
	var row []rat.Rat
	for _, p := range pairs {
		row = append(row, p[0], p[1])
	}
	return row
}

// fewTerms has terms of each kind.
func fewTerms() [][]Term {
	right := rightTerms()
	return [][]Term{nil, places(0, 2, 19), right[len(right)-1], places(3, 3), places(0, 20)}
}

func TestMemory(t *testing.T) {
	for name, call := range calls() {
		for _, terms := range fewTerms() {
			eachTwo(func(x, y []rat.Rat) {
				a, b, l := roomyRow(x, 2), roomyRow(y, 3), roomyTerms(terms, 2)
				wasA, wasB, wasL := imprint(a), imprint(b), imprintTerms(l)
				changed := func() bool {
					return !slices.Equal(imprint(a), wasA) || !slices.Equal(imprint(b), wasB) || !slices.Equal(imprintTerms(l), wasL)
				}
				first, second := call(a, b, l), call(a, b, l)
				if changed() {
					t.Fatalf("%s changes what is handed in", name)
				}
				was := second.imprint()
				first.fill()
				if !slices.Equal(second.imprint(), was) {
					t.Fatalf("%s: two answers share memory", name)
				}
				second.fill()
				if changed() {
					t.Fatalf("%s: an answer shares memory with what was handed in", name)
				}
			})
		}
	}
}

func TestMemoryOfOneRowTwice(t *testing.T) {
	for name, call := range calls() {
		for _, x := range someRows() {
			a := roomyRow(x, 3)
			was := imprint(a)
			got, want := call(a, a, nil), call(roomyRow(x, 0), roomyRow(x, 0), nil)
			if !slices.Equal(imprint(a), was) {
				t.Fatalf("%s of one row twice changes it", name)
			}
			if !Same(got.row, want.row) || !slices.Equal(got.texts, want.texts) || len(got.terms) != len(want.terms) {
				t.Fatalf("%s of one row twice: %v, want %v", name, got, want)
			}
		}
	}
}

// The room behind a row's end is none of its places.
func TestRoomIsNotRead(t *testing.T) {
	a, b := roomyRow(Ints(1, 2, 3), 4), roomyRow(Ints(4, 5), 9)
	if s := rat.Text(Dot(a, b)); s != "14" {
		t.Errorf("Dot: %s", s)
	}
	if !Same(Add(a, b), Ints(5, 7, 3)) || !Same(Scale(b, rat.Int(2)), Ints(8, 10)) || Same(a, b) || !Zero(roomyRow(Ints(0, 0), 2)) {
		t.Errorf("Add, Scale, Same or Zero reads behind a row's end")
	}
	if len(Texts(a)) != 3 || len(Sparse(b)) != 2 || len(listed(Pairs(a, b))) != 4 {
		t.Errorf("Texts, Sparse or Pairs reads behind a row's end")
	}
	l := roomyTerms(places(0, 2), 3)
	if row, is := Dense(l, 4); !is || !Same(row, Ints(1, 0, 1, 0)) || !Right(l) || rat.Text(SparseDot(l, b)) != "4" {
		t.Errorf("Dense, Right or SparseDot reads behind its terms' end")
	}
}

func TestMemoryOfInts(t *testing.T) {
	numbers := []int{3, -4, 5, sentinel, sentinel}
	first, second := answer{row: Ints(numbers[:3]...)}, answer{row: Ints(numbers[:3]...)}
	if !slices.Equal(numbers, []int{3, -4, 5, sentinel, sentinel}) {
		t.Errorf("Ints changes its list: %v", numbers)
	}
	numbers[0] = 9
	first.fill()
	if !slices.Equal(Texts(second.row), []string{"3", "-4", "5"}) {
		t.Errorf("Ints keeps its list, or shares an answer: %v", Texts(second.row))
	}
}

// What Pairs was handed may be written over before its pairs are gone through, and while they are.
func TestPairsKeepsNothing(t *testing.T) {
	a, b := Ints(1, 2, 3), Ints(-4, -5, -6)
	want := []string{"1", "-4", "2", "-5", "3", "-6"}
	pairs := Pairs(a, b)
	a[0], b[1] = rat.Int(99), rat.Int(99)
	a[2].Num.Size[0] = 99
	if got := Texts(listed(pairs)); !slices.Equal(got, want) {
		t.Errorf("Pairs, its rows written over: %v", got)
	}
	a, b = Ints(1, 2, 3), Ints(-4, -5, -6)
	var got []string
	for _, p := range Pairs(a, b) {
		clear(a)
		clear(b)
		got = append(got, Texts(p[:])...)
	}
	if !slices.Equal(got, want) {
		t.Errorf("Pairs, its rows written over on the way: %v", got)
	}
}

func TestPairsAreNewEachTime(t *testing.T) {
	pairs := Pairs(Ints(1, 2, 3), Ints(-4, -5, -6))
	for _, p := range pairs {
		p[0].Num.Size[0], p[1].Den[0] = 99, 99
		p[0] = rat.Rat{}
	}
	if got := Texts(listed(pairs)); !slices.Equal(got, []string{"1", "-4", "2", "-5", "3", "-6"}) {
		t.Errorf("Pairs, gone through again: %v", got)
	}
}

func TestNilAndEmptyAreTheSame(t *testing.T) {
	for name, call := range calls() {
		for _, x := range someRows() {
			for _, l := range fewTerms() {
				for _, c := range [][2]answer{
					{call(nil, x, l), call([]rat.Rat{}, x, l)}, {call(x, nil, l), call(x, []rat.Rat{}, l)}, {call(x, x, nil), call(x, x, []Term{})},
				} {
					if !Same(c[0].row, c[1].row) || !slices.Equal(c[0].texts, c[1].texts) || len(c[0].terms) != len(c[1].terms) {
						t.Fatalf("%s tells nil from empty: %v and %v", name, c[0], c[1])
					}
				}
			}
		}
	}
}
