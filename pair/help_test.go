package pair

import (
	"math/big"
	"slices"
	"testing"

	"wordhoard/api"
)

// draw tells numbers that look like chance, the same each time.
type draw uint64

func (d *draw) n(n int) int {
	*d = *d*6364136223846793005 + 1442695040888963407
	return int(uint64(*d) >> 33 % uint64(n))
}

// both counts what was so, and what was not.
type both struct{ so, not int }

func (b *both) add(so bool) {
	if so {
		b.so++
	} else {
		b.not++
	}
}

// least of both that a test must have seen.
func (b *both) least(t *testing.T, n int) {
	t.Helper()
	if b.so < n || b.not < n {
		t.Errorf("only %d and %d", b.so, b.not)
	}
}

// rule in which nothing is wrong, of so many parts at most.
func (d *draw) rule(kinds, parts, words int) api.Pair {
	r := api.Pair{Head: d.n(kinds)}
	var rest []int
	for range 1 + d.n(parts) {
		if d.n(2) == 0 {
			r.Left = append(r.Left, -1-d.n(words))
		} else {
			rest = append(rest, len(rest))
			r.Left = append(r.Left, d.n(kinds))
		}
	}
	for len(rest) > 0 || len(r.Right) == 0 || len(r.Right) < parts && d.n(2) == 0 {
		if len(rest) == 0 || len(r.Right)+len(rest) < parts && d.n(3) == 0 {
			r.Right = append(r.Right, -1-d.n(words))
			continue
		}
		i := d.n(len(rest))
		r.Right = append(r.Right, rest[i])
		rest = slices.Delete(rest, i, i+1)
	}
	return r
}

// drawn is a pairing in which nothing is wrong but that kinds may lead back to themselves.
func (d *draw) drawn(kinds, rules, parts, words int) api.Pairing {
	g := api.Pairing{Kinds: 1 + d.n(kinds)}
	for range d.n(rules + 1) {
		g.Rules = append(g.Rules, d.rule(g.Kinds, parts, words))
	}
	return g
}

// pairing in which nothing is wrong, of few kinds and words, so that texts often have several others.
func (d *draw) pairing(kinds, rules, parts, words int) api.Pairing {
	for {
		if g := d.drawn(kinds, rules, parts, words); !slowRound(g) {
			return g
		}
	}
}

// slowRound goes from each kind as far as it comes, once by Lefts, once by Rights.
func slowRound(g api.Pairing) bool {
	for kind := range g.Kinds {
		for _, right := range []bool{false, true} {
			for at, met := []int{kind}, map[int]int{}; len(at) > 0; at = at[1:] {
				for _, r := range g.Rules {
					to := slowOnly(r, right)
					if r.Head != at[0] || to < 0 || met[to] > 0 {
						continue
					}
					if to == kind {
						return true
					}
					met[to]++
					at = append(at, to)
				}
			}
		}
	}
	return false
}

// slowOnly is the kind that a Left, or a Right, is just; -1: it is another thing.
func slowOnly(r api.Pair, right bool) int {
	if right && len(r.Right) == 1 && r.Right[0] == 0 {
		return slices.Max(r.Left) // its only kind
	}
	if !right && len(r.Left) == 1 {
		return max(r.Left[0], -1)
	}
	return -1
}

// textsUpTo has all texts of one to so many words.
func textsUpTo(long int, words ...int) [][]int {
	var all [][]int
	last := [][]int{{}}
	for range long {
		var next [][]int
		for _, text := range last {
			for _, w := range words {
				next = append(next, append(slices.Clone(text), w))
			}
		}
		all, last = append(all, next...), next
	}
	return all
}

// slowTrees of a kind of a text, one by one.
func slowTrees(g api.Pairing, kind int, text []int) []api.Tree {
	var all []api.Tree
	for i, r := range g.Rules {
		if r.Head == kind {
			for _, kids := range slowKids(g, r.Left, text) {
				all = append(all, api.Tree{Rule: i, Kids: kids})
			}
		}
	}
	return all
}

// slowKids of a Left: all lists of trees that together with its words are the text.
func slowKids(g api.Pairing, left, text []int) [][]api.Tree {
	switch {
	case len(left) == 0 && len(text) == 0:
		return [][]api.Tree{nil}
	case len(left) == 0 || len(left) > len(text):
		return nil
	case left[0] < 0 && text[0] == -left[0]:
		return slowKids(g, left[1:], text[1:])
	case left[0] < 0:
		return nil
	}
	var all [][]api.Tree
	for end := 1; end <= len(text); end++ {
		rests := slowKids(g, left[1:], text[end:])
		if len(rests) == 0 {
			continue
		}
		for _, first := range slowTrees(g, left[0], text[:end]) {
			for _, rest := range rests {
				all = append(all, append([]api.Tree{first}, rest...))
			}
		}
	}
	return all
}

// slowOther is a tree's other text.
func slowOther(g api.Pairing, t api.Tree) []int {
	var text []int
	for _, part := range g.Rules[t.Rule].Right {
		if part < 0 {
			text = append(text, -part)
		} else {
			text = append(text, slowOther(g, t.Kids[part])...)
		}
	}
	return text
}

// slowOthers are the other texts of all trees, in their order.
func slowOthers(g api.Pairing, text []int) [][]int {
	var all [][]int
	for _, t := range slowTrees(g, 0, text) {
		all = append(all, slowOther(g, t))
	}
	slices.SortFunc(all, func(a, b []int) int {
		if len(a) != len(b) {
			return len(a) - len(b)
		}
		return slices.Compare(a, b)
	})
	return slices.CompactFunc(all, slices.Equal[[]int])
}

func sameTexts(a, b [][]int) bool { return slices.EqualFunc(a, b, slices.Equal[[]int]) }

func hasText(l [][]int, text []int) bool {
	return slices.ContainsFunc(l, func(other []int) bool { return slices.Equal(other, text) })
}

// fill has so many of a part.
func fill(n, part int) []int { return slices.Repeat([]int{part}, n) }

// shift turns a text of two words round, and goes on behind 9.
func shift() api.Pairing {
	return api.Pairing{Kinds: 2, Rules: []api.Pair{{Left: []int{1, 1}, Right: []int{1, 0}}, {Left: []int{1, 0}, Right: []int{1, -9, 0}}, {Head: 1, Left: []int{-1}, Right: []int{-3}}, {Head: 1, Left: []int{-2}, Right: []int{-4}}, {Head: 1, Left: []int{-1}, Right: []int{-5, -5}}}}
}

// choices has a text of one 1 for each kind but the first, of which the other text is one of so many.
func choices(many ...int) api.Pairing {
	g := api.Pairing{Kinds: 1 + len(many), Rules: []api.Pair{{}}}
	for i, n := range many {
		g.Rules[0].Left = append(g.Rules[0].Left, 1+i)
		g.Rules[0].Right = append(g.Rules[0].Right, len(many)-1-i)
		for word := range n {
			g.Rules = append(g.Rules, api.Pair{Head: 1 + i, Left: []int{-1}, Right: []int{-1 - word}})
		}
	}
	return g
}

// ratOf what is told.
func ratOf(s string) *big.Rat {
	r, ok := new(big.Rat).SetString(s)
	if !ok {
		panic(s)
	}
	return r
}

// duos of a table of so many words, of texts of so many words at most.
func (d *draw) duos(many, words, long int) []api.Duo {
	var l []api.Duo
	for range many {
		l = append(l, api.Duo{From: d.text(long, words), To: d.text(long, words)})
	}
	return l
}

func (d *draw) text(long, words int) []int {
	text := make([]int, 1+d.n(long))
	for i := range text {
		text[i] = 1 + d.n(words)
	}
	return text
}

// table of so many words: each row is 1 together, often with noughts in it.
func (d *draw) table(words, great int) [][]string {
	table := make([][]string, words)
	for i := range table {
		parts := make([]int, words)
		sum := 0
		for sum == 0 {
			for j := range parts {
				parts[j] = max(0, d.n(great)-great/4)
				sum += parts[j]
			}
		}
		for _, part := range parts {
			r := big.NewRat(int64(part), int64(sum))
			table[i] = append(table[i], r.Num().String()+"/"+r.Denom().String())
		}
	}
	return table
}

// slowWord is what all words of From have for a word of To, added.
func slowWord(from []int, to int, table [][]string) *big.Rat {
	sum := new(big.Rat)
	for _, e := range from {
		sum.Add(sum, ratOf(table[e-1][to-1]))
	}
	return sum
}

func slowChance(l []api.Duo, table [][]string) *big.Rat {
	p := big.NewRat(1, 1)
	for _, d := range l {
		for _, to := range d.To {
			p.Mul(p, slowWord(d.From, to, table))
			p.Quo(p, big.NewRat(int64(len(d.From)), 1))
		}
	}
	return p
}

// slowBetter is nil, if a duo's chance is 0.
func slowBetter(l []api.Duo, table [][]string) [][]string {
	if slowChance(l, table).Sign() == 0 {
		return nil
	}
	type two struct{ from, to int }
	given, all := map[two]*big.Rat{}, map[int]*big.Rat{}
	for e := 1; e <= len(table); e++ {
		all[e] = new(big.Rat)
		for f := 1; f <= len(table); f++ {
			given[two{e, f}] = new(big.Rat)
		}
	}
	for _, d := range l {
		for _, f := range d.To {
			for _, e := range d.From {
				gift := new(big.Rat).Quo(ratOf(table[e-1][f-1]), slowWord(d.From, f, table))
				given[two{e, f}].Add(given[two{e, f}], gift)
				all[e].Add(all[e], gift)
			}
		}
	}
	var better [][]string
	for e := 1; e <= len(table); e++ {
		var row []string
		for f := 1; f <= len(table); f++ {
			if all[e].Sign() == 0 {
				row = append(row, table[e-1][f-1])
			} else {
				row = append(row, new(big.Rat).Quo(given[two{e, f}], all[e]).String())
			}
		}
		better = append(better, row)
	}
	return better
}

func sameTables(a, b [][]string) bool { return slices.EqualFunc(a, b, slices.Equal[[]string]) }

// roomy has the same elements, and room behind them with what nobody may change.
func roomy[T any](l []T, behind T) []T {
	all := append(slices.Clone(l), behind, behind, behind)
	return all[:len(l)]
}
