package stock

import (
	"fmt"
	"math"
	"slices"
	"strings"
	"testing"

	"offcut/api"
)

// The signatures are the document's; these lines do not build with others.
var (
	_ func(Stock) bool                                 = Right
	_ func(string) (Stock, int, api.Errno)             = Parse
	_ func(Stock) (string, api.Errno)                  = Print
	_ func(Stock) int                                  = Total
	_ func(Stock) func(yield func(at, width int) bool) = Each
	_ func(Stock) bool                                 = Wide
	_                                                  = struct{ Width, Need int }(Item{})
	_                                                  = struct {
		Roll  int
		Items []Item
	}(Stock{})
)

// The document's own limits.
const (
	widest   = 1048576
	neediest = 1024
	fullest  = 60
)

// of is a stock of a roll, and of widths and needs in turn.
func of(roll int, numbers ...int) Stock {
	s := Stock{Roll: roll}
	for pair := range slices.Chunk(numbers, 2) {
		s.Items = append(s.Items, Item{pair[0], pair[1]})
	}
	return s
}

// many is a stock of as many items, all of them others.
func many(roll, items int) Stock {
	s := Stock{Roll: roll}
	for k := range items {
		s.Items = append(s.Items, Item{Width: k + 1, Need: k % 5})
	}
	return s
}

// alike is a stock of as many items, all of them the same.
func alike(roll, items int, item Item) Stock {
	return Stock{roll, slices.Repeat([]Item{item}, items)}
}

// shown is all that a stock says, as a text of another kind than the program's own.
func shown(s Stock) string {
	all := []string{fmt.Sprint(s.Roll)}
	for _, item := range s.Items {
		all = append(all, fmt.Sprintf("%dx%d", item.Need, item.Width))
	}
	return strings.Join(all, " ")
}

// rightStocks are stocks that may be, of each kind.
func rightStocks() map[string]Stock {
	return map[string]Stock{
		"nil items":                  {Roll: 10},
		"empty items":                {10, []Item{}},
		"one item":                   of(10, 3, 2),
		"the chapter's":              of(10, 3, 2, 7, 1),
		"the narrowest roll":         of(1, 1, 1),
		"the narrowest roll, empty":  of(1),
		"the widest roll":            of(widest, 1, 1),
		"the widest item":            of(widest, widest, 1),
		"the widest item, too wide":  of(1, widest, 1),
		"none needed":                of(10, 3, 0),
		"the most needed":            of(10, 3, neediest),
		"one wider than the roll":    of(10, 11, 1),
		"none needed of a wide one":  of(10, 11, 0, 10, 1),
		"the same item twice":        of(10, 3, 2, 3, 2),
		"the same width twice":       of(10, 3, 2, 3, 5),
		"items that fall":            of(10, 7, 1, 5, 2, 3, 3),
		"noughts between":            of(10, 3, 0, 4, 2, 5, 0, 6, 0, 7, 1, 8, 0),
		"59 items":                   many(30, fullest-1),
		"60 items":                   many(30, fullest),
		"60 items, none needed":      alike(30, fullest, Item{7, 0}),
		"all as great as it may be":  alike(widest, fullest, Item{widest, neediest}),
		"all as small as it may be":  alike(1, fullest, Item{1, 0}),
		"a wide one at last":         of(10, 3, 2, 4, 1, 11, 1),
		"a wide one behind the most": of(10, 3, neediest, 11, 1),
	}
}

// wrongStocks are stocks that may not be, of each kind.
func wrongStocks() map[string]Stock {
	all := map[string]Stock{
		"the zero stock":           {},
		"a roll of 0":              of(0, 1, 1),
		"a roll of 0, empty":       {0, []Item{}},
		"a roll of -1":             of(-1, 1, 1),
		"a roll beyond":            of(widest+1, 1, 1),
		"a roll beyond, empty":     of(widest + 1),
		"a roll of 2^32 + 10":      of(1<<32+10, 1, 1),
		"the least roll":           of(math.MinInt, 1, 1),
		"the greatest roll":        of(math.MaxInt, 1, 1),
		"a width of 0":             of(10, 0, 1),
		"a width of 0, not needed": of(10, 0, 0),
		"a width of -1":            of(10, -1, 1),
		"a width beyond":           of(10, widest+1, 1),
		"a width beyond, wide":     of(widest, widest+1, 0),
		"a width of 2^32 + 3":      of(10, 1<<32+3, 1),
		"the least width":          of(10, math.MinInt, 1),
		"the greatest width":       of(10, math.MaxInt, 1),
		"a need of -1":             of(10, 3, -1),
		"a need beyond":            of(10, 3, neediest+1),
		"a need of 2^32 + 1":       of(10, 3, 1<<32+1),
		"the least need":           of(10, 3, math.MinInt),
		"the greatest need":        of(10, 3, math.MaxInt),
		"needs that make a sum":    of(10, 3, 2, 4, -1),
		"61 items":                 many(30, fullest+1),
		"61 items, none needed":    alike(30, fullest+1, Item{7, 0}),
		"62 items":                 many(30, fullest+2),
		"very many items":          alike(30, 1<<16, Item{1, 1}),
		"all noughts":              alike(0, 3, Item{}),
	}
	for _, place := range []int{0, 1, 30, fullest - 1} {
		for _, wrong := range []Item{{}, {0, 1}, {-1, 1}, {widest + 1, 1}, {1, -1}, {1, neediest + 1}} {
			s := many(30, fullest)
			s.Items[place] = wrong
			all[fmt.Sprintf("item %d is %v", place, wrong)] = s
		}
	}
	return all
}

// P10.1, Right

func TestRight(t *testing.T) {
	for name, s := range rightStocks() {
		if !Right(s) {
			t.Errorf("Right, %s: false", name)
		}
	}
	for name, s := range wrongStocks() {
		if Right(s) {
			t.Errorf("Right, %s: true", name)
		}
	}
}

func TestRightOfHowManyItems(t *testing.T) {
	for items := range 200 {
		if got := Right(many(30, items)); got != (items <= 60) {
			t.Errorf("Right of %d items: %v", items, got)
		}
	}
}

// All stocks of one item and of two, of numbers at the edges.
func TestRightAtAllEdges(t *testing.T) {
	numbers := []int{math.MinInt, -widest, -1, 0, 1, 2, neediest - 1, neediest, neediest + 1, widest - 1, widest, widest + 1, 1 << 32, 1<<32 + 1, math.MaxInt}
	within := func(n, low, high int) bool { return low <= n && n <= high }
	for _, roll := range numbers {
		isRoll := within(roll, 1, 1<<20)
		if got := Right(of(roll)); got != isRoll {
			t.Errorf("Right of a roll of %d: %v", roll, got)
		}
		for _, width := range numbers {
			for _, need := range numbers {
				want := isRoll && within(width, 1, 1<<20) && within(need, 0, 1<<10)
				for _, s := range []Stock{of(roll, width, need), of(roll, width, need, 1, 1), of(roll, 1, 1, width, need)} {
					if got := Right(s); got != want {
						t.Fatalf("Right of %s: %v", shown(s), got)
					}
				}
			}
		}
	}
}

// P10.2

// oneByOne is all widths of a stock that may be, in another way than the program's own.
func oneByOne(s Stock) []int {
	all := []int{}
	for _, item := range s.Items {
		all = append(all, slices.Repeat([]int{item.Width}, item.Need)...)
	}
	return all
}

// asked is the widths that a function is asked about, if it tells false from one of them on, and whether their numbers are right.
func asked(each func(yield func(at, width int) bool), last int) ([]int, bool) {
	all, right := []int{}, true
	each(func(at, width int) bool {
		right = right && at == len(all)
		all = append(all, width)
		return at < last
	})
	return all, right
}

func wantWidths(t *testing.T, what string, each func(yield func(at, width int) bool), last int, want []int) {
	t.Helper()
	if got, right := asked(each, last); !right || !slices.Equal(got, want) {
		t.Errorf("%s: %d widths, numbers right: %v, %.20v, want %d, %.20v", what, len(got), right, got, len(want), want)
	}
}

func TestEach(t *testing.T) {
	for _, c := range []struct {
		s    Stock
		want []int
	}{
		{of(10, 3, 2, 7, 1), []int{3, 3, 7}}, // the chapter's example
		{of(10), nil},
		{of(10, 3, 0), nil},
		{of(10, 3, 0, 4, 0), nil},
		{of(10, 3, 1), []int{3}},
		{of(10, 7, 1, 3, 2), []int{7, 3, 3}},
		{of(10, 3, 1, 7, 1, 3, 1), []int{3, 7, 3}},
		{of(10, 3, 0, 4, 2, 5, 0, 6, 0, 7, 1, 8, 0), []int{4, 4, 7}},
		{of(10, 11, 2, 10, 1), []int{11, 11, 10}},
		{of(1, widest, 1, 1, 3), []int{widest, 1, 1, 1}},
		{of(10, 5, 2, 5, 2), []int{5, 5, 5, 5}},
	} {
		wantWidths(t, "Each of "+shown(c.s), Each(c.s), math.MaxInt, c.want)
		if got := Total(c.s); got != len(c.want) {
			t.Errorf("Total of %s: %d", shown(c.s), got)
		}
	}
}

func TestEachInARange(t *testing.T) {
	next := 0
	want := []int{3, 3, 7}
	for at, width := range Each(of(10, 3, 2, 7, 1)) {
		if at != next || width != want[at] {
			t.Errorf("Each: %d, of width %d", at, width)
		}
		next++
	}
	if next != 3 {
		t.Errorf("Each goes through %d", next)
	}
	for at := range Each(of(10, 3, 2, 7, 1)) {
		if at == 1 {
			break
		}
		if at > 1 {
			t.Error("Each goes on behind a break")
		}
	}
	// One range in another one's steps.
	each, pairs := Each(of(10, 3, 2, 7, 1)), ""
	for at, width := range each {
		for other := range each {
			if other < at {
				pairs += fmt.Sprint(other, at, width, " ")
			}
		}
	}
	if pairs != "0 1 3 0 2 7 1 2 7 " {
		t.Errorf("Each in Each: %s", pairs)
	}
}

func TestEachGoesNoFurther(t *testing.T) {
	s := of(10, 4, 0, 3, 2, 5, 0, 7, 1, 2, 3, 6, 0)
	all := []int{3, 3, 7, 2, 2, 2}
	each := Each(s)
	for last := range all {
		// Each time it begins anew, however far it went the time before.
		wantWidths(t, fmt.Sprint("Each, told false at ", last), each, last, all[:last+1])
		wantWidths(t, fmt.Sprint("Each, new, told false at ", last), Each(s), last, all[:last+1])
		wantWidths(t, "Each, told true", each, math.MaxInt, all)
	}
	wantWidths(t, "Each, told false at once", each, -1, all[:1])
	most := alike(widest, fullest, Item{widest, neediest})
	for _, last := range []int{0, 1, neediest - 1, neediest, neediest + 1, fullest*neediest - 2, fullest*neediest - 1} {
		wantWidths(t, fmt.Sprint("Each of the most, told false at ", last), Each(most), last, slices.Repeat([]int{widest}, last+1))
	}
}

func TestEachOfNoFunction(t *testing.T) {
	for _, s := range []Stock{{}, of(10), of(10, 3, 0), of(10, 3, 2), of(10, 0, 1)} {
		Each(s)(nil)
	}
}

// wide is Wide, in another way than the program's own.
func wide(s Stock) bool {
	return slices.ContainsFunc(s.Items, func(item Item) bool { return item.Need > 0 && item.Width > s.Roll })
}

func wantParts(t *testing.T, what string, s Stock) {
	t.Helper()
	want := oneByOne(s)
	wantWidths(t, "Each, "+what, Each(s), math.MaxInt, want)
	if got := Total(s); got != len(want) {
		t.Errorf("Total, %s: %d, want %d", what, got, len(want))
	}
	if got := Wide(s); got != wide(s) {
		t.Errorf("Wide, %s: %v", what, got)
	}
}

func TestOfWhatMayBe(t *testing.T) {
	for name, s := range rightStocks() {
		wantParts(t, name, s)
	}
	some := source(1)
	for range 2000 {
		s := some.stock()
		if !Right(s) {
			t.Fatalf("Right of %.200s: false", shown(s))
		}
		wantParts(t, shown(s), s)
	}
}

func TestOfWhatMayNotBe(t *testing.T) {
	for name, s := range wrongStocks() {
		wantWidths(t, "Each, "+name, Each(s), math.MaxInt, nil)
		if total, wide := Total(s), Wide(s); total != 0 || wide {
			t.Errorf("%s: Total %d, Wide %v", name, total, wide)
		}
		// One more that is too wide is told of no more than the others.
		s.Items = append([]Item{{widest, neediest}}, s.Items...)
		wantWidths(t, "Each, a wide one first, "+name, Each(s), math.MaxInt, nil)
		if total, wide := Total(s), Wide(s); total != 0 || wide {
			t.Errorf("a wide one first, %s: Total %d, Wide %v", name, total, wide)
		}
	}
}

func TestTotal(t *testing.T) {
	for _, c := range []struct {
		s    Stock
		want int
	}{
		{of(10), 0}, {of(10, 3, 0), 0}, {of(10, 3, 1), 1}, {of(10, 3, neediest), 1024}, {of(10, 3, neediest+1), 0}, {of(10, 11, 5), 5}, {of(10, 3, 2, 3, 4), 6}, {of(10, 9, 0, 3, 2, 8, 0), 2},
		{alike(widest, fullest, Item{widest, neediest}), 61440}, {alike(1, fullest, Item{1, 1}), 60}, {alike(1, fullest+1, Item{1, 1}), 0}, {many(30, 60), 120},
	} {
		if got := Total(c.s); got != c.want {
			t.Errorf("Total of %.200s: %d, want %d", shown(c.s), got, c.want)
		}
	}
}

func TestWide(t *testing.T) {
	last := many(fullest, fullest)
	last.Items[fullest-1] = Item{fullest + 1, 1}
	for _, c := range []struct {
		s    Stock
		want bool
	}{
		{of(10), false}, {of(10, 9, 1), false}, {of(10, 10, 1), false}, {of(10, 11, 1), true}, {of(10, 11, 0), false}, {of(10, widest, neediest), true}, {of(10, widest, 0), false},
		{of(10, 10, neediest, 11, 0), false}, {of(10, 11, 0, 10, neediest), false}, {of(10, 11, 0, 11, 1), true}, {of(10, 11, 1, 3, 1), true}, {of(10, 3, 1, 11, 1), true}, {of(10, 3, 0, 11, 1), true},
		// Two that are too wide together are not too wide.
		{of(10, 9, 2), false}, {of(10, 6, 1, 5, 1), false},
		{of(1, 1, 1), false}, {of(1, 2, 1), true}, {of(widest, widest, 1), false}, {of(widest-1, widest, 1), true}, {of(widest-1, widest, 0), false},
		{many(fullest, fullest), false}, {last, true}, {many(fullest-2, fullest), true}, {of(10, 11, 1, 0, 1), false}, {of(0, 1, 1), false}, {of(-1, 1, 1), false},
	} {
		if got := Wide(c.s); got != c.want {
			t.Errorf("Wide of %.200s: %v", shown(c.s), got)
		}
	}
}
