package chance

import (
	"math/big"
	"slices"

	"wordhoard/api"
)

// draw tells numbers that look like chance, the same each time.
type draw uint64

func (d *draw) n(n int) int {
	*d = *d*6364136223846793005 + 1442695040888963407
	return int(uint64(*d) >> 33 % uint64(n))
}

// chances in which nothing is wrong, of few kinds and words, so that texts often have several trees.
func (d *draw) chances(kinds, rules, parts, words, weight int) api.Chances {
	for {
		c := api.Chances{Grammar: api.Grammar{Kinds: 1 + d.n(kinds)}}
		for range d.n(rules + 1) {
			r := api.Rule{Head: d.n(c.Grammar.Kinds)}
			for range 1 + d.n(parts) {
				if d.n(2) == 0 {
					r.Body = append(r.Body, -1-d.n(words))
				} else {
					r.Body = append(r.Body, d.n(c.Grammar.Kinds))
				}
			}
			c.Grammar.Rules = append(c.Grammar.Rules, r)
			c.Weights = append(c.Weights, 1+d.n(weight))
		}
		if Check(c) == api.OK {
			return c
		}
	}
}

func (d *draw) text(long, words int) []int {
	text := make([]int, 1+d.n(long))
	for i := range text {
		text[i] = 1 + d.n(words)
	}
	return text
}

// spoken are at most so many texts that have trees.
func (d *draw) spoken(c api.Chances, most, long, words int) [][]int {
	var texts [][]int
	for range 20 * most {
		if text := d.text(long, words); len(texts) < most && len(slowTrees(c.Grammar, text)) > 0 {
			texts = append(texts, text)
		}
	}
	return texts
}

// slowTrees are all trees of kind 0 of a text, one by one.
func slowTrees(g api.Grammar, text []int) []api.Tree { return treesOfKind(g, 0, text) }

func treesOfKind(g api.Grammar, kind int, text []int) []api.Tree {
	var all []api.Tree
	for i, r := range g.Rules {
		if r.Head == kind {
			for _, kids := range kidsOf(g, r.Body, text) {
				all = append(all, api.Tree{Rule: i, Kids: kids})
			}
		}
	}
	return all
}

// kidsOf a body: all lists of trees that together with its words are the text.
func kidsOf(g api.Grammar, body, text []int) [][]api.Tree {
	switch {
	case len(body) == 0 && len(text) == 0:
		return [][]api.Tree{nil}
	case len(body) == 0 || len(body) > len(text):
		return nil
	case body[0] < 0 && text[0] == -body[0]:
		return kidsOf(g, body[1:], text[1:])
	case body[0] < 0:
		return nil
	}
	var all [][]api.Tree
	for end := 1; end <= len(text)-len(body)+1; end++ {
		if len(body) == 1 && end < len(text) {
			continue
		}
		rests := kidsOf(g, body[1:], text[end:])
		if len(rests) == 0 {
			continue
		}
		for _, first := range treesOfKind(g, body[0], text[:end]) {
			for _, rest := range rests {
				all = append(all, append([]api.Tree{first}, rest...))
			}
		}
	}
	return all
}

// slowOdds are the rules' probabilities by weights.
func slowOdds(c api.Chances) []*big.Rat {
	sums := make([]int64, c.Grammar.Kinds)
	for i, r := range c.Grammar.Rules {
		sums[r.Head] += int64(c.Weights[i])
	}
	var odds []*big.Rat
	for i, r := range c.Grammar.Rules {
		odds = append(odds, big.NewRat(int64(c.Weights[i]), sums[r.Head]))
	}
	return odds
}

// slowWorth of a tree.
func slowWorth(t api.Tree, odds []*big.Rat) *big.Rat {
	p := new(big.Rat).Set(odds[t.Rule])
	for _, kid := range t.Kids {
		p.Mul(p, slowWorth(kid, odds))
	}
	return p
}

// slowTimes counts how often each rule stands in a tree.
func slowTimes(t api.Tree, times []int64) {
	times[t.Rule]++
	for _, kid := range t.Kids {
		slowTimes(kid, times)
	}
}

// slowOf is a text's probability.
func slowOf(c api.Chances, odds []*big.Rat, text []int) *big.Rat {
	sum := new(big.Rat)
	for _, t := range slowTrees(c.Grammar, text) {
		sum.Add(sum, slowWorth(t, odds))
	}
	return sum
}

// slowUsed is nil, if there is no tree.
func slowUsed(c api.Chances, text []int) []*big.Rat {
	odds := slowOdds(c)
	all := slowOf(c, odds, text)
	if all.Sign() == 0 {
		return nil
	}
	used := make([]*big.Rat, len(odds))
	for i := range used {
		used[i] = new(big.Rat)
	}
	for _, t := range slowTrees(c.Grammar, text) {
		share := new(big.Rat).Quo(slowWorth(t, odds), all)
		times := make([]int64, len(odds))
		slowTimes(t, times)
		for i, n := range times {
			used[i].Add(used[i], new(big.Rat).Mul(share, big.NewRat(n, 1)))
		}
	}
	return used
}

// slowBetter adds up what is used, and shares it out.
func slowBetter(c api.Chances, texts [][]int) []*big.Rat {
	sums, heads := slowOdds(c), make([]*big.Rat, c.Grammar.Kinds)
	old := slowOdds(c)
	for i := range sums {
		sums[i] = new(big.Rat)
		for _, text := range texts {
			sums[i].Add(sums[i], slowUsed(c, text)[i])
		}
	}
	for i := range heads {
		heads[i] = new(big.Rat)
	}
	for i, r := range c.Grammar.Rules {
		heads[r.Head].Add(heads[r.Head], sums[i])
	}
	for i, r := range c.Grammar.Rules {
		if heads[r.Head].Sign() == 0 {
			sums[i] = old[i]
		} else {
			sums[i].Quo(sums[i], heads[r.Head])
		}
	}
	return sums
}

// told as the document asks: n/d.
func told(odds []*big.Rat) []string {
	var all []string
	for _, r := range odds {
		all = append(all, r.String())
	}
	return all
}

// ratOf what was told.
func ratOf(s string) *big.Rat {
	r, ok := new(big.Rat).SetString(s)
	if !ok {
		panic(s)
	}
	return r
}

// roomy has the same elements, and room behind them with what nobody may change.
func roomy[T any](l []T, behind T) []T {
	all := append(slices.Clone(l), behind, behind, behind)
	return all[:len(l)]
}

// coins and words are chance grammars with little and with more to choose.
func coins() api.Chances {
	return api.Chances{Grammar: api.Grammar{Kinds: 1, Rules: []api.Rule{{Body: []int{-1}}, {Body: []int{-1, 0}}}}, Weights: []int{1, 1}}
}

func words() api.Chances {
	return api.Chances{Grammar: api.Grammar{Kinds: 2, Rules: []api.Rule{{Body: []int{0, 0}}, {Body: []int{1}}, {Body: []int{-2}}, {Head: 1, Body: []int{-1}}, {Head: 1, Body: []int{-1, -1}}}}, Weights: []int{2, 5, 3, 1, 3}}
}

// great has as many kinds and rules as there may be, and goes all the way down
// before it forks, with weights that have nothing in common.
func great() api.Chances {
	c := api.Chances{Grammar: api.Grammar{Kinds: api.MaxKinds}}
	put := func(head int, body ...int) {
		c.Grammar.Rules = append(c.Grammar.Rules, api.Rule{Head: head, Body: body})
		c.Weights = append(c.Weights, api.MaxWeight-7*len(c.Weights))
	}
	for kind := range api.MaxKinds - 1 {
		put(kind, kind+1)
		put(kind, -1-kind)
		put(kind, -2-kind, 0)
		put(kind, 0, -3-kind)
	}
	put(api.MaxKinds-1, 0, 0)
	put(api.MaxKinds-1, -1)
	put(api.MaxKinds-1, -2)
	put(api.MaxKinds-1, -3)
	return c
}
