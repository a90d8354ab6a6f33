package grammar

import (
	"slices"

	"wordhoard/api"
)

// maxDifferent is how many different words a grammar may have whose twins are looked for.
const maxDifferent = 3

// Twins: the first text with more trees than one.
func Twins(g api.Grammar, long int) ([]int, bool, api.Errno) {
	if e := Check(g); e != api.OK {
		return nil, false, e
	}
	if long < 0 || long > api.MaxTwins {
		return nil, false, api.ErrRange
	}
	words := wordsOf(g)
	if len(words) > maxDifferent {
		return nil, false, api.ErrMany
	}
	texts := [][]int{nil}
	for range long {
		texts = longer(texts, words)
		for _, text := range texts {
			if read(g, text).trees().isMany() {
				return slices.Clone(text), true, api.OK
			}
		}
	}
	return nil, false, api.OK
}

// wordsOf a grammar's rules, which rise.
func wordsOf(g api.Grammar) []int {
	var words []int
	for _, r := range g.Rules {
		for _, part := range r.Body {
			if part < 0 {
				words = append(words, -part)
			}
		}
	}
	slices.Sort(words)
	return slices.Compact(words)
}

// longer are the texts with one word more behind each, in the order of lists.
func longer(texts [][]int, words []int) [][]int {
	var all [][]int
	for _, text := range texts {
		for _, word := range words {
			all = append(all, append(slices.Clone(text), word))
		}
	}
	return all
}
