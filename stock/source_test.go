package stock

import (
	"fmt"
	"math/rand/v2"
	"strings"
)

// scatter scatters stocks and texts: the same ones each time.
type scatter struct{ from *rand.Rand }

func source(seed uint64) scatter {
	return scatter{rand.New(rand.NewPCG(seed, 10))}
}

func (s scatter) upTo(n int) int {
	return s.from.IntN(n)
}

// width is one that may be: mostly a small one.
func (s scatter) width() int {
	switch s.upTo(8) {
	case 0:
		return 1 + s.upTo(widest)
	case 1:
		return []int{1, 2, widest - 1, widest}[s.upTo(4)]
	}
	return 1 + s.upTo(40)
}

// need is one that may be: mostly a small one.
func (s scatter) need() int {
	switch s.upTo(12) {
	case 0:
		return s.upTo(neediest + 1)
	case 1:
		return []int{0, 1, neediest - 1, neediest}[s.upTo(4)]
	}
	return s.upTo(4)
}

// stock is one that may be.
func (s scatter) stock() Stock {
	all := Stock{Roll: s.width()}
	for range s.upTo([]int{1, 4, 10, fullest + 1}[s.upTo(4)]) {
		all.Items = append(all.Items, Item{s.width(), s.need()})
	}
	return all
}

// blanks are some, as many as that at least.
func (s scatter) blanks(least int) string {
	return strings.Repeat(" ", least+s.upTo(8)/6)
}

// lines are ends of lines, and lines without words between them.
func (s scatter) lines() string {
	if s.upTo(8) == 0 {
		return " # roll 5 item\n"
	}
	return strings.Repeat("\n", 1+s.upTo(8)/6)
}

// number is a number's text, with noughts ahead of it now and then, and amiss now and then.
func (s scatter) number(n, amiss int) string {
	if s.upTo(amiss) == 0 {
		return []string{"0", "1048577", "1025", "-1", "+1", "1/1", "4/2", "x", "", "1 1", "-0", "#", "99999999999999999999", "18446744073709551617"}[s.upTo(14)]
	}
	return strings.Repeat("0", s.upTo(8)/7*s.upTo(20)) + fmt.Sprint(n)
}

// word is the word that a line begins with, or another one now and then.
func (s scatter) word(word string, amiss int) string {
	if s.upTo(amiss) == 0 {
		return []string{"roll", "item", "items", "", "1", "Roll"}[s.upTo(6)]
	}
	return word
}

// stockText is a text of a stock, with something amiss now and then.
func (s scatter) stockText(amiss int) string {
	text := s.blanks(0)
	if s.upTo(4) == 0 {
		text += s.lines()
	}
	text += s.word("roll", amiss) + s.blanks(1) + s.number(s.width(), amiss) + s.lines()
	for range []int{s.upTo(4), s.upTo(10), s.upTo(fullest), fullest - 1 + s.upTo(4)}[s.upTo(4)] {
		text += s.blanks(0) + s.word("item", amiss) + s.blanks(1) + s.number(s.width(), amiss) + s.blanks(1) + s.number(s.need(), amiss) + s.blanks(0) + s.lines()
	}
	return text
}
