package edge

import (
	"math"
	"slices"
	"testing"

	"offcut/api"
	"offcut/nat"
	"offcut/rat"
	"offcut/whole"
)

const sentinel = 0xdeadbeef

// held is a fraction whose numbers have room behind their ends, and what all of that memory has to stay.
type held struct {
	fraction rat.Rat
	all, was [2]nat.Nat
}

func hold(a rat.Rat, room int) held {
	var h held
	for i, row := range rows(a) {
		h.all[i] = slices.Clone(row)
		for range room {
			h.all[i] = append(h.all[i], sentinel)
		}
		h.was[i] = slices.Clone(h.all[i])
	}
	h.fraction = rat.Rat{Num: whole.Int{Minus: a.Num.Minus, Size: h.all[0][:len(a.Num.Size)]}, Den: h.all[1][:len(a.Den)]}
	return h
}

func (h held) changed() bool {
	return !slices.Equal(h.all[0], h.was[0]) || !slices.Equal(h.all[1], h.was[1])
}

func rows(a rat.Rat) []nat.Nat {
	return []nat.Nat{a.Num.Size, a.Den}
}

func guarded(a rat.Rat) rat.Rat {
	got, _ := Guard(func() rat.Rat { return a })
	return got
}

func TestMemory(t *testing.T) {
	for _, x := range slices.Concat(given(), noughts()) {
		for _, room := range []int{1, 4, 40} {
			h, plain := hold(x, room), hold(x, 0).fraction
			low, high := Between(h.fraction)
			near := Near(h.fraction)
			is := Same(low, h.fraction)
			got := guarded(h.fraction)
			if h.changed() {
				t.Fatalf("%v, with room behind its ends, is changed", x)
			}
			wantLow, wantHigh := Between(plain)
			if low != wantLow || high != wantHigh || near != Near(plain) || is != Same(low, plain) {
				t.Fatalf("%v, with room behind its ends, is another one", x)
			}
			same(t, "Guard", got, value(plain))
			apart(t, "Guard", rows(got), h)
		}
	}
}

// apart fills each answer's spare room, which must change neither what was handed in nor another answer.
func apart(t *testing.T, name string, answers []nat.Nat, in ...held) {
	t.Helper()
	was := make([]nat.Nat, len(answers))
	for i, a := range answers {
		was[i] = slices.Clone(a)
	}
	for i, a := range answers {
		room := a[len(a):cap(a)]
		for k := range room {
			room[k] = 0xa5a5a5a5 + uint32(i)
		}
	}
	for i, a := range answers {
		if !slices.Equal(a, was[i]) {
			t.Fatalf("%s: an answer lies in another one's spare room", name)
		}
		for _, word := range a[len(a):cap(a)] {
			if word != 0xa5a5a5a5+uint32(i) {
				t.Fatalf("%s: two answers share spare room", name)
			}
		}
	}
	for _, h := range in {
		if h.changed() {
			t.Fatalf("%s: an answer's spare room is what was handed in", name)
		}
	}
}

func TestMemoryOfOneRowTwice(t *testing.T) {
	row := nat.Nat{6, 0, 7, 0, sentinel}
	a := rat.Rat{Num: whole.Int{Minus: true, Size: row[:4]}, Den: row[:4]}
	low, high := Between(a)
	if low != -1 || high != -1 || Near(a) != -1 || !Same(-1, a) || rat.Text(guarded(a)) != "-1" {
		t.Errorf("-1 as a row by itself: %g %g %g", low, high, Near(a))
	}
	if !slices.Equal(row, nat.Nat{6, 0, 7, 0, sentinel}) {
		t.Errorf("a row that is both Num and Den is changed")
	}
}

func TestMemoryOfExact(t *testing.T) {
	for _, f := range numbers() {
		first, _ := Exact(f)
		second, _ := Exact(f)
		apart(t, "Exact", append(rows(first), rows(second)...))
		third, e := Exact(f)
		if e != api.OK || rat.Compare(third, second) != 0 {
			t.Fatalf("Exact(%g) is not always the same", f)
		}
	}
}

// What is written into an answer afterwards is seen neither by the next call nor by what a guarded function keeps.
func TestMemoryOfAnswersWrittenOver(t *testing.T) {
	for _, f := range []float64{0, 1, -0.1, math.MaxFloat64, math.SmallestNonzeroFloat64} {
		first, _ := Exact(f)
		for _, row := range rows(first) {
			clear(row[:cap(row)])
		}
		again, _ := Exact(f)
		same(t, "Exact, again", again, of(f))
	}
	kept := hold(rat.Rat{Num: whole.Of(-6), Den: nat.Nat{35}}, 3)
	Guard(func() rat.Rat { return kept.fraction })
	if kept.changed() {
		t.Errorf("Guard changes what a function tells")
	}
}
