package nat

import (
	"slices"
	"testing"
)

// The rules 'Memory', 'Nothing has changed' and 'One answer'.

const sentinel = 0xdeadbeef

// held is a row that is handed in, with room behind its end, and what all of that memory has to stay.
type held struct {
	row, all, was Nat
}

func hold(a Nat, room int) held {
	all := slices.Clone(a)
	for range room {
		all = append(all, sentinel)
	}
	return held{all[:len(a)], all, slices.Clone(all)}
}

func (h held) changed() bool {
	return !slices.Equal(h.all, h.was)
}

// calls are the calls that are handed rows, each with all rows that it answers.
func calls() map[string]func(a, b Nat) []Nat {
	return map[string]func(a, b Nat) []Nat{
		"Right":   func(a, _ Nat) []Nat { Right(a); return nil },
		"Compare": func(a, b Nat) []Nat { Compare(a, b); return nil },
		"Small":   func(a, _ Nat) []Nat { Small(a); return nil },
		"Bits":    func(a, _ Nat) []Nat { Bits(a); return nil },
		"Text":    func(a, _ Nat) []Nat { Text(a); return nil },
		"Add":     func(a, b Nat) []Nat { return []Nat{Add(a, b)} },
		"Mul":     func(a, b Nat) []Nat { return []Nat{Mul(a, b)} },
		"Gcd":     func(a, b Nat) []Nat { return []Nat{Gcd(a, b)} },
		"Sub": func(a, b Nat) []Nat {
			left, _ := Sub(a, b)
			return []Nat{left}
		},
		"DivMod": func(a, b Nat) []Nat {
			quotient, left, _ := DivMod(a, b)
			return []Nat{quotient, left}
		},
		"Shift": func(a, _ Nat) []Nat {
			return []Nat{Shift(a, -1), Shift(a, 0), Shift(a, 1), Shift(a, 32), Shift(a, 1<<16), Shift(a, 1<<16+1)}
		},
	}
}

func memoryRows() []Nat {
	return append(longRows()[:24], nil, Nat{0}, Nat{1}, Nat{1, 0}, Nat{6, 0, 0}, Nat{0, 1}, Nat{7, 0, 1, 0}, Nat{1<<32 - 1, 1<<32 - 1, 0})
}

func TestMemory(t *testing.T) {
	for name, call := range calls() {
		for _, x := range memoryRows() {
			for _, y := range memoryRows() {
				a, b := hold(x, 5), hold(y, 5)
				answers := call(a.row, b.row)
				if a.changed() || b.changed() {
					t.Fatalf("%s(%v, %v) changes what is handed in", name, x, y)
				}
				roomIsApart(t, name, answers, a, b)
			}
		}
	}
}

// roomIsApart fills the spare room of each answer, which must change neither what was handed in nor an answer's words.
func roomIsApart(t *testing.T, name string, answers []Nat, in ...held) {
	t.Helper()
	var was []Nat
	for _, a := range answers {
		was = append(was, slices.Clone(a))
	}
	for i, a := range answers {
		room := a[len(a):cap(a)]
		for k := range room {
			room[k] = 0xa5a5a5a5 + uint32(i)
		}
	}
	for i, a := range answers {
		if !slices.Equal(a, was[i]) {
			t.Fatalf("%s: an answer's words lie in another one's spare room", name)
		}
		for _, w := range a[len(a):cap(a)] {
			if w != 0xa5a5a5a5+uint32(i) {
				t.Fatalf("%s: two answers share spare room", name)
			}
		}
	}
	for _, h := range in {
		if h.changed() {
			t.Fatalf("%s: an answer's spare room is what was handed in", name)
		}
	}
}

func TestMemoryOfOneRowTwice(t *testing.T) {
	for name, call := range calls() {
		for _, x := range memoryRows() {
			a := hold(x, 5)
			want := call(slices.Clone(x), slices.Clone(x))
			got := call(a.row, a.row)
			if a.changed() || !slices.EqualFunc(got, want, slices.Equal) {
				t.Fatalf("%s of the row %v twice: %v, want %v", name, x, got, want)
			}
		}
	}
}

func TestMemoryOfOfAndParse(t *testing.T) {
	for _, n := range []uint64{0, 1, 1 << 32, 1<<64 - 1} {
		roomIsApart(t, "Of", []Nat{Of(n), Of(n)})
		first, _ := Parse(Text(Of(n)))
		second, _ := Parse(Text(Of(n)))
		roomIsApart(t, "Parse", []Nat{first, second})
	}
}

func TestAnswerDoesNotHangOnCapacity(t *testing.T) {
	for name, call := range calls() {
		for _, x := range memoryRows() {
			for _, y := range memoryRows() {
				want := call(slices.Clip(slices.Clone(x)), slices.Clip(slices.Clone(y)))
				got := call(hold(x, 9).row, hold(y, 3).row)
				if !slices.EqualFunc(got, want, slices.Equal) {
					t.Fatalf("%s(%v, %v) hangs on the room behind: %v, %v", name, x, y, got, want)
				}
			}
		}
	}
}

func TestNilAndEmptyAreTheSame(t *testing.T) {
	for name, call := range calls() {
		for _, x := range memoryRows() {
			if !slices.EqualFunc(call(nil, x), call(Nat{}, x), slices.Equal) || !slices.EqualFunc(call(x, nil), call(x, Nat{}), slices.Equal) {
				t.Fatalf("%s tells nil from an empty row, beside %v", name, x)
			}
		}
	}
}
