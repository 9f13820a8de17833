package stock

import (
	"fmt"
	"math"
	"slices"
	"strings"
	"testing"
)

const sentinel = 0xdeadbeef

// roomyStock is a stock with items behind its items' end.
func roomyStock(s Stock, room int) Stock {
	items := append(slices.Clone(s.Items), slices.Repeat([]Item{{1, 1}}, room)...)
	return Stock{s.Roll, items[: len(s.Items) : len(s.Items)+room]}
}

// imprint is all that a stock has in its memory, the room behind its items' end too.
func imprint(s Stock) string {
	return fmt.Sprint(s.Roll, len(s.Items), cap(s.Items), s.Items[:cap(s.Items)])
}

// calls are the calls that are handed a stock, each with what it answers, as a text.
func calls() map[string]func(s Stock) string {
	return map[string]func(s Stock) string{
		"Right": func(s Stock) string { return fmt.Sprint(Right(s)) },
		"Print": func(s Stock) string { text, e := Print(s); return fmt.Sprint(text, e) },
		"Total": func(s Stock) string { return fmt.Sprint(Total(s)) },
		"Each":  func(s Stock) string { all, right := asked(Each(s), math.MaxInt); return fmt.Sprint(all, right) },
		"Wide":  func(s Stock) string { return fmt.Sprint(Wide(s)) },
	}
}

// withStocks hands over stocks, those that may be and those that may not.
func withStocks(use func(s Stock)) {
	for _, s := range rightStocks() {
		use(s)
	}
	for _, s := range wrongStocks() {
		if len(s.Items) < 99 {
			use(s)
		}
	}
	some := source(4)
	for range 20 {
		use(some.stock())
	}
}

func TestMemoryOfWhatIsHandedIn(t *testing.T) {
	for name, call := range calls() {
		withStocks(func(s Stock) {
			want := call(s)
			for _, room := range []int{1, 3, 64} {
				mine := roomyStock(s, room)
				was := imprint(mine)
				if got := call(mine); got != want {
					t.Fatalf("%s hangs on the room behind an end: %.90q, want %.90q", name, got, want)
				}
				if imprint(mine) != was {
					t.Fatalf("%s changes what is handed in: %s", name, shown(s))
				}
			}
		})
	}
}

// What Each was handed may be written over before its widths are gone through, and while they are.
func TestEachKeepsNothing(t *testing.T) {
	changes := map[string]func(items []Item){
		"nothing":             func([]Item) {},
		"noughts":             func(items []Item) { clear(items) },
		"other widths":        func(items []Item) { items[0].Width, items[1].Width = 8, 9 },
		"other needs":         func(items []Item) { items[0].Need, items[1].Need, items[2].Need = 0, 5, 5 },
		"wrong items":         func(items []Item) { items[1], items[2] = Item{-1, 1 << 40}, Item{1, -1} },
		"the other way round": func(items []Item) { slices.Reverse(items) },
	}
	want := []int{3, 3, 7, 2}
	for name, change := range changes {
		for _, room := range []int{0, 3} {
			s := roomyStock(of(10, 3, 2, 7, 1, 2, 1), room)
			each := Each(s)
			change(s.Items)
			wantWidths(t, "Each, its items written over: "+name, each, math.MaxInt, want)
			s = roomyStock(of(10, 3, 2, 7, 1, 2, 1), room)
			var got []int
			for _, width := range Each(s) {
				change(s.Items)
				got = append(got, width)
			}
			if !slices.Equal(got, want) {
				t.Errorf("Each, its items written over on the way, %s: %v", name, got)
			}
		}
	}
	wrong := of(10, 3, 2, 0, 1)
	each := Each(wrong)
	wrong.Items[1].Width = 1
	wantWidths(t, "Each of what may not be, mended later", each, math.MaxInt, nil)
}

func TestMemoryOfParse(t *testing.T) {
	for _, text := range []string{"roll 10", "roll 10\nitem 3 2", "roll 10\nitem 3 2\nitem 7 1\nitem 2 0", "roll 10\n" + items(60), "roll 10\n" + items(33) + "item 4 4"} {
		was := strings.Clone(text)
		first, at, e := Parse(text)
		second, _, _ := Parse(text)
		want := shown(second)
		if at != 0 || e != 0 {
			t.Fatalf("Parse(%.90q): line %d, error %d", text, at, e)
		}
		for k := range first.Items[:cap(first.Items)] {
			first.Items[:cap(first.Items)][k] = Item{sentinel, sentinel}
		}
		_ = append(second.Items, Item{sentinel, sentinel})
		third, _, _ := Parse(text)
		if shown(second) != want || shown(third) != want || text != was {
			t.Errorf("Parse(%.90q): an answer shares memory", text)
		}
	}
}

func TestNilAndEmptyAreTheSame(t *testing.T) {
	for name, call := range calls() {
		for _, roll := range []int{-1, 0, 1, 10, widest, widest + 1} {
			none, empty, cut := call(Stock{Roll: roll}), call(Stock{roll, []Item{}}), call(Stock{roll, []Item{{0, 9}}[:0]})
			if none != empty || none != cut {
				t.Errorf("%s of a roll of %d tells nil from empty: %q, %q and %q", name, roll, none, empty, cut)
			}
		}
	}
}

func TestTheSameAgain(t *testing.T) {
	some := source(5)
	for range 20 {
		s := some.stock()
		for name, call := range calls() {
			want := call(s)
			for range 5 {
				if got := call(Stock{s.Roll, slices.Clone(s.Items)}); got != want {
					t.Fatalf("%s of %.90s, again: %.90q, want %.90q", name, shown(s), got, want)
				}
			}
		}
		text := some.stockText(10)
		want, wantAt, wantE := Parse(text)
		for range 5 {
			if got, at, e := Parse(strings.Clone(text)); shown(got) != shown(want) || at != wantAt || e != wantE {
				t.Fatalf("Parse(%.90q), again: %.90q, line %d, error %d", text, shown(got), at, e)
			}
		}
	}
}
