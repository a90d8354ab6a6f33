package grammar

import (
	"slices"

	"wordhoard/api"
)

// stretch of a text.
type stretch struct{ from, to int }

// kindSet has a bit for each kind of a normal grammar.
type kindSet [(api.MaxFine + 63) / 64]uint64

func (s *kindSet) add(kind int) { s[kind/64] |= 1 << (kind % 64) }

func (s *kindSet) has(kind int) bool { return s[kind/64]>>(kind%64)&1 == 1 }

// Squares: is there a tree of a text, of a normal grammar?
func Squares(g api.Grammar, text []int) (bool, api.Errno) {
	if e := checkUpTo(g, api.MaxFine, api.MaxFineRules); e != api.OK {
		return false, e
	}
	if slices.ContainsFunc(g.Rules, func(r api.Rule) bool { return !isFine(r.Body) }) {
		return false, api.ErrKind
	}
	if e := checkText(text); e != api.OK {
		return false, e
	}
	whole := squares(g.Rules, text)[stretch{from: 0, to: len(text)}]
	return whole.has(0), api.OK
}

// isFine tells whether a body is one word, or two kinds.
func isFine(body []int) bool {
	return len(body) == 1 && body[0] < 0 || len(body) == 2 && body[0] >= 0 && body[1] >= 0
}

// squares tells of each stretch of a text which kinds span it, from the shortest
// ones on (COCKE, YOUNGER, KASAMI).
func squares(rules []api.Rule, text []int) map[stretch]kindSet {
	kinds := map[stretch]kindSet{}
	for from, word := range text {
		kinds[stretch{from: from, to: from + 1}] = ofWord(rules, word)
	}
	for long := 2; long <= len(text); long++ {
		for from := 0; from+long <= len(text); from++ {
			var all kindSet
			for mid := from + 1; mid < from+long; mid++ {
				joined(rules, kinds[stretch{from: from, to: mid}], kinds[stretch{from: mid, to: from + long}], &all)
			}
			kinds[stretch{from: from, to: from + long}] = all
		}
	}
	return kinds
}

// ofWord has the kinds that are just that word.
func ofWord(rules []api.Rule, word int) kindSet {
	var set kindSet
	for _, r := range rules {
		if len(r.Body) == 1 && r.Body[0] == -word {
			set.add(r.Head)
		}
	}
	return set
}

// joined adds to all the kinds that are one of the left set and one of the right set behind it.
func joined(rules []api.Rule, left, right kindSet, all *kindSet) {
	if left == (kindSet{}) || right == (kindSet{}) {
		return
	}
	for _, r := range rules {
		if len(r.Body) == 2 && left.has(r.Body[0]) && right.has(r.Body[1]) {
			all.add(r.Head)
		}
	}
}
