package grammar

import (
	"math/big"
	"slices"

	"wordhoard/api"
)

// draw tells numbers that look like chance, the same each time.
type draw uint64

func (d *draw) n(n int) int {
	*d = *d*6364136223846793005 + 1442695040888963407
	return int(uint64(*d) >> 33 % uint64(n))
}

// grammar has few kinds and words, so that texts often have trees, and often several.
func (d *draw) grammar(kinds, rules, parts, words int) api.Grammar {
	g := api.Grammar{Kinds: 1 + d.n(kinds)}
	for range d.n(rules + 1) {
		r := api.Rule{Head: d.n(g.Kinds)}
		for range 1 + d.n(parts) {
			if d.n(2) == 0 {
				r.Body = append(r.Body, -1-d.n(words))
			} else {
				r.Body = append(r.Body, d.n(g.Kinds))
			}
		}
		g.Rules = append(g.Rules, r)
	}
	return g
}

// textsUpTo has all texts of so many words at most, in their order.
func textsUpTo(long int, words ...int) [][]int {
	all := [][]int{{}}
	last := all
	for range long {
		var next [][]int
		for _, text := range last {
			for _, w := range words {
				next = append(next, append(slices.Clone(text), w))
			}
		}
		all, last = append(all, next...), next
	}
	return all
}

// key of a text.
func key(text []int) string {
	var b []byte
	for _, w := range text {
		b = append(b, byte(w))
	}
	return string(b)
}

// slowTexts has of each kind its texts of so many words at most: what bodies
// make of those that are known is added until nothing is new.
func slowTexts(g api.Grammar, long int) []map[string]bool {
	known := make([]map[string]bool, g.Kinds)
	for i := range known {
		known[i] = map[string]bool{}
	}
	for grown := true; grown; {
		grown = false
		for _, r := range g.Rules {
			made := map[string]bool{"": true}
			for _, part := range r.Body {
				next := map[string]bool{}
				for ahead := range made {
					if part < 0 {
						next[ahead+string([]byte{byte(-part)})] = true
						continue
					}
					for behind := range known[part] {
						if len(ahead)+len(behind) <= long {
							next[ahead+behind] = true
						}
					}
				}
				made = next
			}
			for text := range made {
				if len(text) <= long && !known[r.Head][text] {
					known[r.Head][text] = true
					grown = true
				}
			}
		}
	}
	return known
}

// slowCount counts the trees of a text by how many rules they have. If there is
// one with more rules than fit in without a kind that comes back to itself in one
// place, there are trees without end; and then there is one with only a few more.
func slowCount(g api.Grammar, text []int) (*big.Int, bool) {
	most := g.Kinds * max(0, 2*len(text)-1)
	type part struct{ rule, dot, from, to, rules int }
	known := map[part]*big.Int{}
	var ofKind func(kind, from, to, rules int) *big.Int
	var ofRest func(p part) *big.Int
	ofKind = func(kind, from, to, rules int) *big.Int {
		sum := new(big.Int)
		for i, r := range g.Rules {
			if r.Head == kind && rules > 0 {
				sum.Add(sum, ofRest(part{i, 0, from, to, rules - 1}))
			}
		}
		return sum
	}
	ofRest = func(p part) *big.Int {
		body := g.Rules[p.rule].Body
		if p.dot == len(body) {
			if p.from == p.to && p.rules == 0 {
				return big.NewInt(1)
			}
			return new(big.Int)
		}
		if n := known[p]; n != nil {
			return n
		}
		sum := new(big.Int)
		if word := -body[p.dot]; word > 0 {
			if p.from < p.to && text[p.from] == word {
				sum = ofRest(part{p.rule, p.dot + 1, p.from + 1, p.to, p.rules})
			}
		} else {
			for end := p.from + 1; end <= p.to; end++ {
				for rules := 1; rules <= p.rules; rules++ {
					if n := ofKind(-word, p.from, end, rules); n.Sign() > 0 {
						rest := ofRest(part{p.rule, p.dot + 1, end, p.to, p.rules - rules})
						sum.Add(sum, new(big.Int).Mul(n, rest))
					}
				}
			}
		}
		known[p] = sum
		return sum
	}
	sum := new(big.Int)
	for rules := range most + 1 {
		sum.Add(sum, ofKind(0, 0, len(text), rules))
	}
	for rules := most + 1; rules <= most+g.Kinds; rules++ {
		if ofKind(0, 0, len(text), rules).Sign() > 0 {
			return nil, true
		}
	}
	return sum, false
}

// nodes of a tree.
func nodes(t api.Tree) int {
	n := 1
	for _, kid := range t.Kids {
		n += nodes(kid)
	}
	return n
}

// isTree tells whether t is a tree of that kind of the text.
func isTree(g api.Grammar, t api.Tree, kind int, text []int) bool {
	left, ok := without(g, t, kind, text)
	return ok && len(left) == 0
}

// without tells what is left of a text behind the words of a tree.
func without(g api.Grammar, t api.Tree, kind int, text []int) ([]int, bool) {
	if t.Rule < 0 || t.Rule >= len(g.Rules) || g.Rules[t.Rule].Head != kind {
		return nil, false
	}
	kids := t.Kids
	for _, part := range g.Rules[t.Rule].Body {
		ok := false
		switch {
		case part < 0 && len(text) > 0:
			ok, text = text[0] == -part, text[1:]
		case part >= 0 && len(kids) > 0:
			text, ok = without(g, kids[0], part, text)
			kids = kids[1:]
		}
		if !ok {
			return nil, false
		}
	}
	return text, len(kids) == 0
}

// roomy has the same elements, and room behind them with what nobody may change.
func roomy[T any](l []T, behind T) []T {
	all := append(slices.Clone(l), behind, behind, behind)
	return all[:len(l)]
}

// sums and others of the document's kind.
func sums() api.Grammar {
	return api.Grammar{Kinds: 1, Rules: []api.Rule{{Body: []int{0, -2, 0}}, {Body: []int{-1}}}}
}

func round() api.Grammar {
	return api.Grammar{Kinds: 2, Rules: []api.Rule{{Body: []int{1}}, {Head: 1, Body: []int{0}}, {Head: 1, Body: []int{-1}}, {Body: []int{-2, 0, -2}}}}
}

// ladder leads from each kind to the next one by so many rules, and has so many
// rules by which the last one is two of the first.
func ladder(steps, forks int) api.Grammar {
	g := api.Grammar{Kinds: api.MaxKinds}
	for kind := range api.MaxKinds - 1 {
		for range steps {
			g.Rules = append(g.Rules, api.Rule{Head: kind, Body: []int{kind + 1}})
		}
	}
	for range forks {
		g.Rules = append(g.Rules, api.Rule{Head: api.MaxKinds - 1, Body: []int{0, 0}})
	}
	g.Rules = append(g.Rules, api.Rule{Head: api.MaxKinds - 1, Body: []int{-1}})
	return g
}
