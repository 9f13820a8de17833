package stock

import (
	"strconv"
	"strings"

	"offcut/api"
	"offcut/lines"
)

// What a stock's lines begin with.
const (
	rollWord = "roll"
	itemWord = "item"
)

// besideDigits is all that a number may have beside its digits.
const besideDigits = "-/"

// Parse reads a stock.
func Parse(text string) (Stock, int, api.Errno) {
	all, e := lines.All(text)
	if e != api.OK {
		return Stock{}, 0, e
	}
	if len(all) == 0 {
		return Stock{}, 0, api.ErrForm
	}
	roll, is := readRoll(all[0].Words)
	if !is {
		return Stock{}, all[0].At, api.ErrForm
	}
	s := Stock{Roll: roll}
	for _, line := range all[1:] {
		item, is := readItem(line.Words)
		if !is {
			return Stock{}, line.At, api.ErrForm
		}
		if len(s.Items) == mostItems {
			return Stock{}, line.At, api.ErrMany
		}
		s.Items = append(s.Items, item)
	}
	return s, 0, api.OK
}

// readRoll is what the first line says.
func readRoll(words []string) (int, bool) {
	if len(words) != 2 || words[0] != rollWord {
		return 0, false
	}
	roll, is := readNumber(words[1])
	return roll, is && rightWidth(roll)
}

// readItem is what a line behind the first one says.
func readItem(words []string) (Item, bool) {
	if len(words) != 3 || words[0] != itemWord {
		return Item{}, false
	}
	width, isWidth := readNumber(words[1])
	need, isNeed := readNumber(words[2])
	item := Item{width, need}
	return item, isWidth && isNeed && rightItem(item)
}

// readNumber is a number of digits alone.
func readNumber(word string) (int, bool) {
	if _, is := lines.Number(word); !is || strings.ContainsAny(word, besideDigits) {
		return 0, false
	}
	// Digits that go beyond an int are an error here; they would be beyond a stock's limits, too.
	n, err := strconv.Atoi(word)
	return n, err == nil
}

// Print writes a stock.
func Print(s Stock) (string, api.Errno) {
	if !Right(s) {
		return "", api.ErrArg
	}
	var text strings.Builder
	text.WriteString(lineText(rollWord, s.Roll))
	for _, item := range s.Items {
		text.WriteString(lineText(itemWord, item.Width, item.Need))
	}
	return text.String(), api.OK
}

// lineText is a line, as a text.
func lineText(first string, numbers ...int) string {
	words := []string{first}
	for _, n := range numbers {
		words = append(words, strconv.Itoa(n))
	}
	return lines.Join(words...) + "\n"
}
