package rat

import (
	"slices"
	"testing"

	"offcut/nat"
	"offcut/whole"
)

const sentinel = 0xdeadbeef

// held is a fraction whose numbers have room behind their ends, and what all of that memory has to stay.
type held struct {
	fraction Rat
	all, was [2]nat.Nat
}

func hold(a Rat, room int) held {
	var h held
	for i, row := range rows(a) {
		h.all[i] = slices.Clone(row)
		for range room {
			h.all[i] = append(h.all[i], sentinel)
		}
		h.was[i] = slices.Clone(h.all[i])
	}
	h.fraction = Rat{whole.Int{Minus: a.Num.Minus, Size: h.all[0][:len(a.Num.Size)]}, h.all[1][:len(a.Den)]}
	return h
}

func (h held) changed() bool {
	return !slices.Equal(h.all[0], h.was[0]) || !slices.Equal(h.all[1], h.was[1])
}

func rows(a Rat) []nat.Nat {
	return []nat.Nat{a.Num.Size, a.Den}
}

// calls are the calls that are handed fractions, each with all rows of words that it answers.
func calls() map[string]func(a, b Rat) []nat.Nat {
	return map[string]func(a, b Rat) []nat.Nat{
		"Right":   func(a, _ Rat) []nat.Nat { Right(a); return nil },
		"Sign":    func(a, _ Rat) []nat.Nat { Sign(a); return nil },
		"Compare": func(a, b Rat) []nat.Nat { Compare(a, b); return nil },
		"Whole":   func(a, _ Rat) []nat.Nat { Whole(a); return nil },
		"Text":    func(a, _ Rat) []nat.Nat { Text(a); return nil },
		"Make":    func(a, b Rat) []nat.Nat { return append(rows(Make(a.Num, a.Den)), rows(Make(a.Num, b.Den))...) },
		"Neg":     func(a, _ Rat) []nat.Nat { return rows(Neg(a)) },
		"Add":     func(a, b Rat) []nat.Nat { return rows(Add(a, b)) },
		"Sub":     func(a, b Rat) []nat.Nat { return rows(Sub(a, b)) },
		"Mul":     func(a, b Rat) []nat.Nat { return rows(Mul(a, b)) },
		"Div": func(a, b Rat) []nat.Nat {
			quotient, _ := Div(a, b)
			return rows(quotient)
		},
		"Floor": func(a, _ Rat) []nat.Nat { return []nat.Nat{Floor(a).Size} },
		"Ceil":  func(a, _ Rat) []nat.Nat { return []nat.Nat{Ceil(a).Size} },
		"Sum":   func(a, b Rat) []nat.Nat { return slices.Concat(rows(Sum(a)), rows(Sum(a, b)), rows(Sum(a, b, a))) },
	}
}

// some are fewer than all fractions: of each kind there is one.
func some() []Rat {
	all := edgeFractions()
	var few []Rat
	for i := 0; i < len(all); i += 7 {
		few = append(few, all[i])
	}
	return append(few, longFractions()...)
}

func TestMemory(t *testing.T) {
	for name, call := range calls() {
		for _, x := range some() {
			for _, y := range some() {
				a, b := hold(x, 4), hold(y, 4)
				answers := call(a.fraction, b.fraction)
				if a.changed() || b.changed() {
					t.Fatalf("%s(%v, %v) changes what is handed in", name, x, y)
				}
				apart(t, name, answers, a, b)
			}
		}
	}
}

// apart fills each answer and its spare room, which must change neither what was handed in nor another answer.
func apart(t *testing.T, name string, answers []nat.Nat, in ...held) {
	t.Helper()
	for i, a := range answers {
		row := a[:cap(a)]
		for k := range row {
			row[k] = 0xa5a5a5a5 + uint32(i)
		}
	}
	for i, a := range answers {
		for _, word := range a[:cap(a)] {
			if word != 0xa5a5a5a5+uint32(i) {
				t.Fatalf("%s: two answers share memory", name)
			}
		}
	}
	for _, h := range in {
		if h.changed() {
			t.Fatalf("%s: an answer shares memory with what was handed in", name)
		}
	}
}

func TestMemoryOfOneFractionTwice(t *testing.T) {
	for name, call := range calls() {
		for _, x := range some() {
			a := hold(x, 4)
			want := call(hold(x, 0).fraction, hold(x, 0).fraction)
			got := call(a.fraction, a.fraction)
			if a.changed() || !slices.EqualFunc(got, want, slices.Equal[nat.Nat]) {
				t.Fatalf("%s of the fraction %v twice: %v, want %v", name, x, got, want)
			}
		}
	}
}

func TestMemoryOfOneRowTwice(t *testing.T) {
	row := nat.Nat{6, 0, 7, 0, sentinel}
	a := Rat{whole.Int{Minus: true, Size: row[:4]}, row[:4]}
	for name, call := range calls() {
		call(a, a)
		if !slices.Equal(row, nat.Nat{6, 0, 7, 0, sentinel}) {
			t.Fatalf("%s changes a row that is both Num and Den", name)
		}
	}
	same(t, "Make of one row twice", Make(a.Num, a.Den), value(Int(-1)))
}

func TestMemoryOfSum(t *testing.T) {
	var list []Rat
	for _, a := range some() {
		list = append(list, hold(a, 2).fraction)
	}
	list = list[:len(list)-3]
	room := list[:len(list)+3]
	was := slices.Clone(room)
	got := Sum(list...)
	for i, a := range room {
		if !slices.Equal(a.Num.Size, was[i].Num.Size) || !slices.Equal(a.Den, was[i].Den) || a.Num.Minus != was[i].Num.Minus {
			t.Fatalf("Sum changes its list at %d", i)
		}
	}
	want := Sum(list...)
	list[0] = Int(99)
	if Compare(got, want) != 0 || Compare(Sum(list...), want) == 0 {
		t.Errorf("Sum keeps its list")
	}
}

func TestMemoryOfWhatIsMadeOfNone(t *testing.T) {
	for _, n := range []int{0, 1, -1, 1 << 32, -1 << 62} {
		apart(t, "Int", append(rows(Int(n)), rows(Int(n))...))
		first, _ := Of(n, 6)
		second, _ := Of(n, 6)
		apart(t, "Of", append(rows(first), rows(second)...))
		second, _ = Of(n, 6)
		first, _ = Parse(Text(second))
		second, _ = Parse(Text(second))
		apart(t, "Parse", append(rows(first), rows(second)...))
	}
	apart(t, "Sum of none", append(rows(Sum()), rows(Sum())...))
	same(t, "Sum of none, again", Sum(), value(Rat{}))
}

func TestNilAndEmptyAreTheSame(t *testing.T) {
	for name, call := range calls() {
		for _, x := range some() {
			for _, y := range some() {
				if len(y.Num.Size) > 0 && len(y.Den) > 0 {
					continue
				}
				none, empty := y, y
				if len(y.Num.Size) == 0 {
					none.Num.Size, empty.Num.Size = nil, nat.Nat{}
				}
				if len(y.Den) == 0 {
					none.Den, empty.Den = nil, nat.Nat{}
				}
				if !slices.EqualFunc(call(none, x), call(empty, x), slices.Equal[nat.Nat]) || !slices.EqualFunc(call(x, none), call(x, empty), slices.Equal[nat.Nat]) {
					t.Fatalf("%s tells nil from empty, of %v beside %v", name, y, x)
				}
			}
		}
	}
}
