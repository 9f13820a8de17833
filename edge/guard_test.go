package edge

import (
	"errors"
	"math"
	"slices"
	"testing"

	"offcut/api"
	"offcut/nat"
	"offcut/rat"
	"offcut/whole"
)

// P4.3

func TestGuardOfWhatIsTold(t *testing.T) {
	for _, a := range slices.Concat(given(), noughts(), []rat.Rat{rat.Int(7), rat.Int(-7), rat.Int(math.MinInt)}) {
		times := 0
		got, e := Guard(func() rat.Rat {
			times++
			return a
		})
		if e != api.OK || times != 1 {
			t.Fatalf("Guard of what tells %v: error %d, asked %d times", a, e, times)
		}
		same(t, "Guard", got, value(a))
		if !rat.Right(got) {
			t.Fatalf("Guard of what tells %v: not lowest: %v", a, got)
		}
	}
}

func TestGuardOfWhatIsNotLowest(t *testing.T) {
	for _, c := range []struct {
		a    rat.Rat
		want string
	}{
		{rat.Rat{}, "0"}, {rat.Rat{Num: whole.Int{Minus: true}, Den: nat.Nat{6}}, "0"}, {rat.Rat{Num: whole.Of(-6), Den: nat.Nat{4, 0}}, "-3/2"},
		{rat.Rat{Num: whole.Of(-6), Den: nat.Nat{0}}, "-6"}, {rat.Rat{Num: whole.Int{Size: nat.Nat{0, 6, 0}}, Den: nat.Nat{0, 3}}, "2"},
	} {
		got, e := Guard(func() rat.Rat { return c.a })
		if e != api.OK || rat.Text(got) != c.want || !rat.Right(got) {
			t.Errorf("Guard of what tells %v: %v, error %d", c.a, got, e)
		}
	}
}

// panics are functions that panic, each in a way of its own.
func panics() map[string]func() rat.Rat {
	var list []rat.Rat
	var counts map[int]int
	var pointer *rat.Rat
	var other func() rat.Rat
	var thing any = "a text"
	nought := 0
	return map[string]func() rat.Rat{
		"a text":     func() rat.Rat { panic("a text") },
		"an error":   func() rat.Rat { panic(errors.New("an error")) },
		"nil":        func() rat.Rat { panic(nil) },
		"a number":   func() rat.Rat { panic(0) },
		"an Errno":   func() rat.Rat { panic(api.OK) },
		"a fraction": func() rat.Rat { panic(rat.Int(1)) },
		"an index":   func() rat.Rat { return list[len(list)] },
		"a slice":    func() rat.Rat { return list[:1][0] },
		"a map":      func() rat.Rat { counts[1] = 1; return rat.Int(1) },
		"a pointer":  func() rat.Rat { return *pointer },
		"a function": func() rat.Rat { return other() },
		"a quotient": func() rat.Rat { return rat.Int(1 / nought) },
		"a type":     func() rat.Rat { return rat.Int(thing.(int)) },
		"a length":   func() rat.Rat { return rat.Int(len(make([]int, nought-1))) },
		"late":       func() rat.Rat { defer func() { panic("late") }(); return rat.Int(1) },
		"twice":      func() rat.Rat { defer func() { panic("second") }(); panic("first") },
		"its own results": func() (a rat.Rat) {
			a = rat.Int(5)
			panic("behind it")
		},
	}
}

func TestGuardOfPanics(t *testing.T) {
	for name, f := range panics() {
		if got, e := Guard(f); !isNothing(got) || e != api.ErrArg {
			t.Errorf("Guard of a panic (%s): %v, error %d", name, got, e)
		}
	}
}

func TestGuardOfPanicsThatRecoverDoesNotTell(t *testing.T) {
	t.Setenv("GODEBUG", "panicnil=1")
	if got, e := Guard(func() rat.Rat { panic(nil) }); !isNothing(got) || e != api.ErrArg {
		t.Errorf("Guard of panic(nil): %v, error %d", got, e)
	}
}

func TestGuardOfNone(t *testing.T) {
	if got, e := Guard(nil); !isNothing(got) || e != api.ErrArg {
		t.Errorf("Guard(nil): %v, error %d", got, e)
	}
}

func TestGuardOfWhatRecoversItself(t *testing.T) {
	got, e := Guard(func() (a rat.Rat) {
		defer func() {
			if recover() != nil {
				a = rat.Int(3)
			}
		}()
		panic("its own")
	})
	if e != api.OK || rat.Text(got) != "3" {
		t.Errorf("Guard of what recovers itself: %v, error %d", got, e)
	}
}

func TestGuardInGuard(t *testing.T) {
	got, e := Guard(func() rat.Rat {
		_, inner := Guard(func() rat.Rat { panic("inside") })
		return rat.Int(int(inner))
	})
	if e != api.OK || rat.Text(got) != "1" {
		t.Errorf("Guard in Guard: %v, error %d", got, e)
	}
	got, e = Guard(func() rat.Rat {
		inner, _ := Guard(func() rat.Rat { return rat.Int(2) })
		panic(inner)
	})
	if !isNothing(got) || e != api.ErrArg {
		t.Errorf("Guard of a panic behind Guard: %v, error %d", got, e)
	}
}
