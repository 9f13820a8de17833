package whole

import (
	"slices"
	"testing"

	"offcut/nat"
)

const sentinel = 0xdeadbeef

// held is a number whose size has room behind its end, and what all of that memory has to stay.
type held struct {
	number   Int
	all, was nat.Nat
}

func hold(a Int, room int) held {
	all := slices.Clone(a.Size)
	for range room {
		all = append(all, sentinel)
	}
	return held{Int{a.Minus, all[:len(a.Size)]}, all, slices.Clone(all)}
}

func (h held) changed() bool {
	return !slices.Equal(h.all, h.was)
}

// calls are the calls that are handed numbers, each with all numbers that it answers.
func calls() map[string]func(a, b Int) []Int {
	return map[string]func(a, b Int) []Int{
		"Right":   func(a, _ Int) []Int { Right(a); return nil },
		"Sign":    func(a, _ Int) []Int { Sign(a); return nil },
		"Compare": func(a, b Int) []Int { Compare(a, b); return nil },
		"Small":   func(a, _ Int) []Int { Small(a); return nil },
		"Text":    func(a, _ Int) []Int { Text(a); return nil },
		"Make":    func(a, _ Int) []Int { return []Int{Make(a.Minus, a.Size), Make(!a.Minus, a.Size)} },
		"Neg":     func(a, _ Int) []Int { return []Int{Neg(a)} },
		"Add":     func(a, b Int) []Int { return []Int{Add(a, b)} },
		"Sub":     func(a, b Int) []Int { return []Int{Sub(a, b)} },
		"Mul":     func(a, b Int) []Int { return []Int{Mul(a, b)} },
		"Floor": func(a, b Int) []Int {
			quotient, left, _ := Floor(a, b)
			return []Int{quotient, left}
		},
	}
}

func equal(a, b []Int) bool {
	return slices.EqualFunc(a, b, func(x, y Int) bool { return x.Minus == y.Minus && slices.Equal(x.Size, y.Size) })
}

func TestMemory(t *testing.T) {
	for name, call := range calls() {
		for _, x := range allNumbers() {
			for _, y := range allNumbers() {
				a, b := hold(x, 5), hold(y, 5)
				answers := call(a.number, b.number)
				if a.changed() || b.changed() {
					t.Fatalf("%s(%v, %v) changes what is handed in", name, x, y)
				}
				roomIsApart(t, name, answers, a, b)
			}
		}
	}
}

// roomIsApart fills the spare room of each answer, which must change neither what was handed in nor an answer's words.
func roomIsApart(t *testing.T, name string, answers []Int, in ...held) {
	t.Helper()
	was := make([]nat.Nat, len(answers))
	for i, a := range answers {
		was[i] = slices.Clone(a.Size)
	}
	for i, a := range answers {
		room := a.Size[len(a.Size):cap(a.Size)]
		for k := range room {
			room[k] = 0xa5a5a5a5 + uint32(i)
		}
	}
	for i, a := range answers {
		if !slices.Equal(a.Size, was[i]) {
			t.Fatalf("%s: an answer's words lie in another one's spare room", name)
		}
		for _, word := range a.Size[len(a.Size):cap(a.Size)] {
			if word != 0xa5a5a5a5+uint32(i) {
				t.Fatalf("%s: two answers share spare room", name)
			}
		}
	}
	for _, h := range in {
		if h.changed() {
			t.Fatalf("%s: an answer's spare room is what was handed in", name)
		}
	}
}

func TestMemoryOfOneNumberTwice(t *testing.T) {
	for name, call := range calls() {
		for _, x := range allNumbers() {
			a := hold(x, 5)
			want := call(hold(x, 0).number, hold(x, 0).number)
			got := call(a.number, a.number)
			if a.changed() || !equal(got, want) {
				t.Fatalf("%s of the number %v twice: %v, want %v", name, x, got, want)
			}
		}
	}
}

func TestMemoryOfOfAndParse(t *testing.T) {
	for _, n := range []int{0, 1, -1, 1 << 32, -1 << 62} {
		roomIsApart(t, "Of", []Int{Of(n), Of(n)})
		first, _ := Parse(Text(Of(n)))
		second, _ := Parse(Text(Of(n)))
		roomIsApart(t, "Parse", []Int{first, second})
	}
}

func TestNilAndEmptyAreTheSame(t *testing.T) {
	for name, call := range calls() {
		for _, x := range allNumbers() {
			for _, minus := range []bool{false, true} {
				none, empty := Int{minus, nil}, Int{minus, nat.Nat{}}
				if !equal(call(none, x), call(empty, x)) || !equal(call(x, none), call(x, empty)) {
					t.Fatalf("%s tells nil from an empty size, beside %v", name, x)
				}
			}
		}
	}
}
