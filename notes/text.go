package notes

import (
	"cmp"
	"slices"
	"strings"

	"offcut/api"
	"offcut/lines"
	"offcut/model"
)

// blockWord is what each line begins with.
const blockWord = "block"

// Parse reads notes.
func Parse(m model.Model, text string) (Notes, int, api.Errno) {
	if !model.Right(m) {
		return Notes{}, 0, api.ErrArg
	}
	all, e := lines.All(text)
	if e != api.OK {
		return Notes{}, 0, e
	}
	home := map[int]int{}
	for k, line := range all {
		if e := take(home, k, m.Vars, line.Words); e != api.OK {
			return Notes{}, line.At, e
		}
	}
	return Notes{gather(home, len(all))}, 0, api.OK
}

// take makes a line's words the home of its variables.
func take(home map[int]int, block int, vars, words []string) api.Errno {
	if words[0] != blockWord || len(words) == 1 {
		return api.ErrForm
	}
	for _, name := range words[1:] {
		at := lines.Index(vars, name)
		if _, taken := home[at]; taken || at < 0 {
			return api.ErrName
		}
		home[at] = block
	}
	return api.OK
}

// gather is the blocks that are told for variables. The map is gone through in any order: what comes of it is sorted.
func gather(home map[int]int, count int) [][]int {
	blocks := make([][]int, count)
	for at, block := range home {
		blocks[block] = append(blocks[block], at)
	}
	for _, block := range blocks {
		slices.Sort(block)
	}
	slices.SortFunc(blocks, func(a, b []int) int { return cmp.Compare(a[0], b[0]) })
	return blocks
}

// Print writes notes.
func Print(m model.Model, n Notes) (string, api.Errno) {
	if !Right(m, n) {
		return "", api.ErrArg
	}
	var text strings.Builder
	for _, block := range n.Blocks {
		words := []string{blockWord}
		for _, at := range block {
			words = append(words, m.Vars[at])
		}
		text.WriteString(lines.Join(words...))
		text.WriteByte('\n')
	}
	return text.String(), api.OK
}
