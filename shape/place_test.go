package shape

import (
	"fmt"
	"math"
	"math/big"
	"slices"
	"strings"
	"testing"

	"offcut/nat"
	"offcut/rat"
	"offcut/whole"
)

// P11.2, Does

func TestDoes(t *testing.T) {
	chapter := of("1 0", "1 -1 | 2")
	two := of("0 0 0", "1 1/2 0 | 3/2", "0 -1 2 | 1")
	for _, c := range []struct {
		p    Problem
		x    string
		want bool
	}{
		{chapter, "2 0", true}, {chapter, "5 3", true}, {chapter, "7/3 1/3", true}, {chapter, "1 -1", false}, {chapter, "0 -2", false}, {chapter, "2 1", false}, {chapter, "0 0", false}, {chapter, "1 0", false}, {chapter, "2", false}, {chapter, "", false}, {chapter, "2 0 0", false}, {chapter, "5 3 0", false},
		{two, "1 1 1", true}, {two, "3/2 0 1/2", true}, {two, "0 3 2", true}, {two, "1 1 2", false}, {two, "2 1 1", false}, {two, "2 -1 0", false}, {two, "1 1", false}, {two, "1 1 1 0", false}, {two, "1 1 1 1", false},
		{of("1 2"), "0 0", true}, {of("1 2"), "3 4/5", true}, {of("1 2"), "3", false}, {of("1 2"), "3 4 5", false}, {of("1 2"), "-1 0", false}, {of("1 2"), "0 -1/1000000000000", false}, {of("1 2"), "", false},
		{of(""), "", true}, {of(""), "0", false}, {of(""), "1", false}, {of(""), "-1", false},
		{of("", "| 0"), "", true}, {of("", "| 1"), "", false}, {of("", "| -1"), "", false}, {of("", "| 0", "| 0"), "", true}, {of("", "| 0", "| 1"), "", false}, {of("", "| 0"), "0", false},
		{of("1", "0 | 0"), "9", true}, {of("1", "0 | 1"), "9", false}, {of("1", "1 | 0"), "0", true}, {of("1", "-1 | 3"), "-3", false}, {of("1", "-1 | -3"), "3", true},
		{of("1", "2 | 1", "2 | 1"), "1/2", true}, {of("1", "2 | 1", "2 | 2"), "1/2", false}, {of("1", "2 | 2", "2 | 1"), "1/2", false},
		{of("1 1", "123456789012345678901234567890 1/3 | 123456789012345678901234567891"), "1 3", true}, {of("1 1", "123456789012345678901234567890 1/3 | 123456789012345678901234567891"), "1 2", false},
	} {
		for _, x := range [][]rat.Rat{row(c.x), rowOtherwise(row(c.x), len(c.x))} {
			for _, p := range []Problem{c.p, problemOtherwise(c.p)} {
				if got := Does(p, x); got != c.want {
					t.Errorf("Does of %s, %s: %v", shown(p), told(x), got)
				}
			}
		}
	}
}

// As little as may be off what fits.
func TestDoesALittleOff(t *testing.T) {
	little := one("1/123456789012345678901234567890")
	p := of("1 1", "3 -2/7 | 19/21")
	x := row("1/3 1/3")
	if !Does(p, x) {
		t.Fatal("Does of what fits: false")
	}
	for side := -1; side <= 1; side += 2 {
		for k := range x {
			other := slices.Clone(x)
			other[k] = rat.Add(x[k], rat.Mul(rat.Int(side), little))
			if Does(p, other) {
				t.Errorf("Does, a little (%d) off at %d: true", side, k)
			}
		}
		q := Problem{p.A, []rat.Rat{rat.Add(p.B[0], rat.Mul(rat.Int(side), little))}, p.C}
		if Does(q, x) {
			t.Errorf("Does, a little (%d) off what the row comes to: true", side)
		}
	}
	below := []rat.Rat{rat.Neg(little), rat.Int(0)}
	if Does(of("0 0", "0 1 | 0"), below) || !Does(of("0 0", "0 1 | 0"), []rat.Rat{little, rat.Int(0)}) {
		t.Error("Does, a little below 0, or above it")
	}
}

func TestDoesOfZeroFractions(t *testing.T) {
	p := Problem{[][]rat.Rat{make([]rat.Rat, 2)}, make([]rat.Rat, 1), make([]rat.Rat, 2)}
	minus := []rat.Rat{{Num: whole.Int{Minus: true}}, {Num: whole.Int{Minus: true, Size: nat.Nat{0}}, Den: nat.Nat{4}}}
	if !Does(p, make([]rat.Rat, 2)) || !Does(p, minus) || !Does(p, row("3 4")) {
		t.Error("Does of zero fractions: false")
	}
	if Does(p, []rat.Rat{{Num: whole.Int{Minus: true, Size: nat.Nat{3}}}, {}}) {
		t.Error("Does of a -3 by 0, that stands for -3: true")
	}
	three := rat.Rat{Num: whole.Int{Size: nat.Nat{3}}, Den: nat.Nat{0}}
	if !Does(of("0", "1 | 3"), []rat.Rat{three}) || !Does(Problem{[][]rat.Rat{{three}}, []rat.Rat{three}, row("0")}, row("1")) {
		t.Error("Does of a 3 by 0, that stands for 3: false")
	}
}

// Each row counts, and each place.
func TestDoesOfEachRowButOne(t *testing.T) {
	for _, rows := range []int{1, 2, 3, highest} {
		p := blank(rows, 2)
		for k := range p.A {
			p.A[k], p.B[k] = row("1 2"), one("5")
		}
		if !Does(p, row("1 2")) || !Does(p, row("5 0")) {
			t.Errorf("Does, all %d rows fit: false", rows)
		}
		for k := range p.A {
			p.B[k] = one("4")
			if Does(p, row("1 2")) {
				t.Errorf("Does, all %d rows but %d fit: true", rows, k)
			}
			p.B[k] = one("5")
		}
	}
	p := Problem{[][]rat.Rat{noughts(longest)}, row("7"), noughts(longest)}
	x := noughts(longest)
	for _, at := range []int{0, 1, 2500, longest - 1} {
		p.A[0][at], x[at] = one("7/2"), one("2")
		if !Does(p, x) {
			t.Errorf("Does of 5000 places, at %d: false", at)
		}
		x[at] = one("3")
		if Does(p, x) {
			t.Errorf("Does of 5000 places, too much at %d: true", at)
		}
		p.A[0][at], x[at] = rat.Int(0), rat.Int(0)
		x[at] = one("-1")
		if Does(p, x) {
			t.Errorf("Does of 5000 places, below 0 at %d: true", at)
		}
		x[at] = rat.Int(0)
	}
}

func TestDoesOfTheMost(t *testing.T) {
	p := alikeRows(highest, longest)
	x := slices.Repeat(row("1/3"), longest)
	if !Does(p, x) || Does(p, x[1:]) || Does(p, append(x, rat.Int(0))) {
		t.Error("Does of 90 rows and 5000 places")
	}
	p.B[highest-1] = rat.Int(1)
	if Does(p, x) {
		t.Error("Does of 90 rows and 5000 places, the last one does not fit: true")
	}
}

// Numbers of noughts would fit all that is there.
func TestDoesOfWhatMayNotBe(t *testing.T) {
	all := wrongs()
	all["more numbers than rows, all noughts"] = Problem{blank(1, 2).A, noughts(2), noughts(2)}
	all["more rows than numbers, all noughts"] = Problem{blank(2, 2).A, noughts(1), noughts(2)}
	all["a longer row, all noughts"] = Problem{[][]rat.Rat{noughts(3)}, noughts(1), noughts(2)}
	all["a shorter row, all noughts"] = Problem{[][]rat.Rat{noughts(1)}, noughts(1), noughts(2)}
	all["a longer row at last, all noughts"] = Problem{[][]rat.Rat{noughts(2), noughts(3)}, noughts(2), noughts(2)}
	for name, p := range all {
		for _, long := range []int{0, len(p.C), 2, 3, 4} {
			if Does(p, noughts(long)) {
				t.Errorf("Does, %s, %d numbers: true", name, long)
			}
		}
	}
}

func does(p Problem, x []rat.Rat) bool {
	is := len(x) == len(p.C)
	for _, v := range x {
		is = is && exact(v).Sign() >= 0
	}
	for k, a := range p.A {
		is = is && dot(a, x).Cmp(exact(p.B[k])) == 0
	}
	return is
}

func TestDoesOfAnyProblem(t *testing.T) {
	some := source(5)
	said := map[bool]int{}
	for range 4000 {
		p, x := some.problem(some.upTo(5), some.upTo(6))
		switch some.upTo(6) {
		case 0:
			x = some.row(some.upTo(7), -1)
		case 1:
			if len(x) > 0 {
				x[some.upTo(len(x))] = some.number(-2)
			}
		}
		got := Does(p, x)
		if got != does(p, x) {
			t.Fatalf("Does of %s, %s: %v", shown(p), told(x), got)
		}
		said[got]++
	}
	if said[true] < 500 || said[false] < 500 {
		t.Errorf("too few of a kind were tried: %v", said)
	}
}

// P11.2, Column

func TestColumn(t *testing.T) {
	p := of("1 -1/2 0 3", "1 2 1 0 | 4", "-1/3 0 0 -1 | 0", "0 1 0 2/7 | -5")
	for k, want := range map[int]string{
		0: "1 -1/3 0", 1: "2 0 1", 2: "1 0 0", 3: "0 -1 2/7", 4: "", 5: "", 100: "", longest: "", -1: "", -2: "", -4: "", math.MinInt: "", math.MaxInt: "", 1 << 32: "", 1<<32 + 1: "", -1 << 32: "",
	} {
		for _, p := range []Problem{p, problemOtherwise(p)} {
			if got := Column(p, k); told(got) != want || !lowestAll(got) {
				t.Errorf("Column %d of %s: %s, want %s", k, shown(p), told(got), want)
			}
		}
	}
}

func TestColumnAtTheEdges(t *testing.T) {
	for _, k := range []int{-1, 0, 1, 2, 3, longest} {
		for _, p := range []Problem{{}, of("1 2 3"), of("", "| 1", "| 2"), {[][]rat.Rat{}, []rat.Rat{}, row("1 2")}} {
			if got := Column(p, k); len(got) > 0 {
				t.Errorf("Column %d of %s: %s", k, shown(p), told(got))
			}
		}
	}
	p := blank(highest, longest)
	want := make([]string, highest)
	for i := range p.A {
		for _, k := range []int{0, 1, longest - 1} {
			p.A[i][k] = rat.Int(i*10 + k)
		}
		want[i] = fmt.Sprint(i * 10)
	}
	if got := told(Column(p, 0)); got != strings.Join(want, " ") {
		t.Errorf("Column 0 of 90 rows: %s", got)
	}
	if got := Column(p, longest-1); len(got) != highest || rat.Text(got[2]) != "5019" || rat.Text(got[highest-1]) != "5889" {
		t.Errorf("Column 4999 of 90 rows: %s", told(got))
	}
	if got := told(Column(p, 2)); got != strings.TrimSpace(strings.Repeat("0 ", highest)) {
		t.Errorf("Column 2 of 90 rows: %s", got)
	}
	if got := Column(p, longest); len(got) > 0 {
		t.Errorf("Column 5000 of 5000 places: %s", told(got))
	}
	if got := Column(Problem{[][]rat.Rat{make([]rat.Rat, 2)}, make([]rat.Rat, 1), make([]rat.Rat, 2)}, 1); told(got) != "0" || !lowestAll(got) {
		t.Errorf("Column of a zero fraction: %v", got)
	}
}

func TestColumnOfWhatMayNotBe(t *testing.T) {
	for name, p := range wrongs() {
		for _, k := range []int{-1, 0, 1, 2, 3, 4, longest - 1, longest} {
			if got := Column(p, k); len(got) > 0 {
				t.Errorf("Column %d, %s: %s", k, name, told(got))
			}
		}
	}
}

// P11.2, With

func TestWith(t *testing.T) {
	for _, c := range []struct {
		p            Problem
		column, cost string
		want         Problem
	}{
		{of(""), "", "7", of("7")},
		{of("1 2"), "", "-1/2", of("1 2 -1/2")},
		{of("", "| 1", "| 2"), "3 4", "5", of("5", "3 | 1", "4 | 2")},
		{of("1 0", "1 -1 | 2"), "9", "8", of("1 0 8", "1 -1 9 | 2")},
		{of("1 0", "1 -1 | 2"), "0", "0", of("1 0 0", "1 -1 0 | 2")},
		{of("1 -1/2 0 3", "1 2 1 0 | 4", "-1/3 0 0 -1 | 0", "0 1 0 2/7 | -5"), "-7 2/3 0", "-4/5", of("1 -1/2 0 3 -4/5", "1 2 1 0 -7 | 4", "-1/3 0 0 -1 2/3 | 0", "0 1 0 2/7 0 | -5")},
		{of("1", "2 | 3", "4 | 5"), "6 6", "6", of("1 6", "2 6 | 3", "4 6 | 5")},
		{of("1", "2 | 3"), "123456789012345678901234567890", "-1/123456789012345678901234567890", of("1 -1/123456789012345678901234567890", "2 123456789012345678901234567890 | 3")},
	} {
		for way, p := range []Problem{c.p, problemOtherwise(c.p)} {
			column, cost := row(c.column), one(c.cost)
			if way > 0 {
				column, cost = rowOtherwise(column, 1), otherwise(cost, 0)
			}
			got, is := With(p, column, cost)
			if !is || shown(got) != shown(c.want) || !lowestProblem(got) || !Right(got) {
				t.Errorf("With of %s, %s and %s: %s, %v, want %s", shown(p), c.column, c.cost, shown(got), is, shown(c.want))
			}
			if k := len(c.p.C); told(Column(got, k)) != c.column || len(Column(got, k+1)) > 0 {
				t.Errorf("With of %s: column %d is %s, want %s", shown(p), k, told(Column(got, k)), c.column)
			}
		}
	}
}

// A fraction may be told in any way, also by a Den of 0: it stands for what it stands for.
func TestWithOfOtherFractions(t *testing.T) {
	p := Problem{[][]rat.Rat{make([]rat.Rat, 1), make([]rat.Rat, 1)}, make([]rat.Rat, 2), make([]rat.Rat, 1)}
	three := rat.Rat{Num: whole.Int{Minus: true, Size: nat.Nat{3, 0}}, Den: nat.Nat{0, 0}}
	got, is := With(p, []rat.Rat{three, {}}, rat.Rat{Num: whole.Int{Minus: true}})
	if !is || shown(got) != shown(of("0 0", "0 -3 | 0", "0 0 | 0")) || !lowestProblem(got) {
		t.Errorf("With of zero fractions: %s, %v", shown(got), is)
	}
	got, is = With(p, []rat.Rat{{Den: nat.Nat{9}}, {Num: whole.Int{Size: nat.Nat{6}}, Den: nat.Nat{4}}}, three)
	if !is || shown(got) != shown(of("0 -3", "0 0 | 0", "0 3/2 | 0")) || !lowestProblem(got) {
		t.Errorf("With of fractions that are not lowest: %s, %v", shown(got), is)
	}
}

func TestWithOfAnotherLength(t *testing.T) {
	for name, p := range rights() {
		if len(p.C) > 99 {
			continue
		}
		for long := range len(p.A) + 5 {
			column := slices.Repeat(row("2/3"), long)
			got, is := With(p, column, one("5"))
			if is != (long == len(p.A)) || is && (!Right(got) || len(got.C) != len(p.C)+1) || !is && !nothingTold(got) {
				t.Errorf("With, %s, a column of %d: %s, %v", name, long, shown(got), is)
			}
		}
		if got, is := With(p, noughts(longest), one("5")); is || !nothingTold(got) {
			t.Errorf("With, %s, a column of 5000: true", name)
		}
	}
}

func TestWithOfHowManyPlaces(t *testing.T) {
	for _, rows := range []int{0, 1, highest} {
		column := slices.Repeat(row("1/2"), rows)
		for _, places := range []int{0, 1, 59, longest - 2, longest - 1, longest} {
			got, is := With(alikeRows(rows, places), column, one("3"))
			if is != (places < longest) || !is && !nothingTold(got) {
				t.Fatalf("With of %d rows and %d places: %v, %d costs", rows, places, is, len(got.C))
			}
			if is && (!Right(got) || len(got.C) != places+1 || len(got.A) != rows || len(got.B) != rows || rat.Text(got.C[places]) != "3" || told(Column(got, places)) != told(column)) {
				t.Errorf("With of %d rows and %d places: %d rows, %d costs", rows, places, len(got.A), len(got.C))
			}
		}
	}
}

func TestWithOfWhatMayNotBe(t *testing.T) {
	for name, p := range wrongs() {
		for _, long := range []int{0, 1, 2, 3, 4, len(p.A), len(p.B)} {
			if long > 99 {
				continue
			}
			if got, is := With(p, slices.Repeat(row("2"), long), one("1")); is || !nothingTold(got) {
				t.Errorf("With, %s, a column of %d: %v", name, long, is)
			}
		}
	}
}

// A place more, and another one: as if all were told at once.
func TestWithAgain(t *testing.T) {
	some := source(6)
	for range 500 {
		whole, x := some.problem(some.upTo(5), some.upTo(8))
		p := Problem{B: whole.B}
		for range whole.A {
			p.A = append(p.A, nil)
		}
		for k, cost := range whole.C {
			next, is := With(p, Column(whole, k), cost)
			if !is {
				t.Fatalf("With of %s, place %d: false", shown(p), k)
			}
			p = next
		}
		if shown(p) != shown(whole) || !lowestProblem(Problem{p.A, nil, p.C}) || Does(p, x) != Does(whole, x) {
			t.Fatalf("With, place by place: %s, want %s", shown(p), shown(whole))
		}
		// What does, and 0 of one place more, does as before.
		more, is := With(p, some.row(len(p.A), -4), some.number(-4))
		if !is || Does(more, append(slices.Clone(x), rat.Int(0))) != Does(p, x) || Does(more, x) {
			t.Fatalf("With of %s: %s", shown(p), shown(more))
		}
	}
}

// Of what fits, what one place more brings is what its column brings.
func TestWithOfWhatFits(t *testing.T) {
	some := source(7)
	for range 300 {
		p, x := some.problem(1+some.upTo(4), some.upTo(5))
		column := some.row(len(p.A), -4)
		more, _ := With(p, column, rat.Int(1))
		v := some.number(0)
		for k, a := range p.A {
			sum := new(big.Rat).Add(dot(a, x), new(big.Rat).Mul(exact(column[k]), exact(v)))
			more.B[k] = one(sum.RatString())
		}
		if !Does(more, append(slices.Clone(x), v)) {
			t.Fatalf("Does of %s, %s and %s: false", shown(more), told(x), rat.Text(v))
		}
	}
}
