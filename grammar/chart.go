package grammar

import (
	"slices"

	"wordhoard/api"
)

// piece of a text, and a kind that spans it.
type piece struct{ kind, from, to int }

// begun is a rule whose parts ahead of dot span the text from one place to another.
type begun struct{ rule, dot, from, to int }

// hope for a kind, from a place of the text on.
type hope struct{ kind, at int }

// chart has what EARLEY's parser finds out about a text, from the left on.
type chart struct {
	grammar api.Grammar
	text    []int
	spans   map[piece]int    // the rule by which a kind was first found to span a piece
	starts  map[begun]int    // where the part just ahead of the dot starts
	waiting map[hope][]begun // what goes on behind a kind, once it is found from that place on
	todo    [][]begun        // of each place what ends there
}

// read a text, with the trees of kind 0 of the whole of it in view.
func read(g api.Grammar, text []int) *chart {
	c := &chart{
		grammar: g,
		text:    text,
		spans:   map[piece]int{},
		starts:  map[begun]int{},
		waiting: map[hope][]begun{},
		todo:    make([][]begun, len(text)+1),
	}
	c.lookFor(hope{kind: 0, at: 0})
	for at := range c.todo {
		for i := 0; i < len(c.todo[at]); i++ {
			c.goOn(c.todo[at][i])
		}
	}
	return c
}

// lookFor the rules of a kind.
func (c *chart) lookFor(h hope) {
	if _, there := c.waiting[h]; there {
		return
	}
	c.waiting[h] = nil
	for i, r := range c.grammar.Rules {
		if r.Head == h.kind {
			c.put(begun{rule: i, dot: 0, from: h.at, to: h.at}, h.at)
		}
	}
}

// put what was begun, if it is new.
func (c *chart) put(b begun, start int) {
	if _, there := c.starts[b]; !there {
		c.starts[b] = start
		c.todo[b.to] = append(c.todo[b.to], b)
	}
}

// goOn with the part behind the dot.
func (c *chart) goOn(b begun) {
	body := c.grammar.Rules[b.rule].Body
	switch {
	case b.dot == len(body):
		c.find(b)
	case body[b.dot] >= 0:
		h := hope{kind: body[b.dot], at: b.to}
		c.lookFor(h)
		c.waiting[h] = append(c.waiting[h], b)
	case b.to < len(c.text) && c.text[b.to] == -body[b.dot]:
		c.put(b.upTo(b.to+1), b.to)
	}
}

// upTo is what is begun with one part more, which ends there.
func (b begun) upTo(to int) begun { return begun{rule: b.rule, dot: b.dot + 1, from: b.from, to: to} }

// find a rule with all its parts. No body is empty, so it ends behind where it
// starts, and nothing will wait there that does not yet.
func (c *chart) find(b begun) {
	p := piece{kind: c.grammar.Rules[b.rule].Head, from: b.from, to: b.to}
	if c.has(p) {
		return
	}
	c.spans[p] = b.rule
	for _, w := range c.waiting[hope{kind: p.kind, at: p.from}] {
		c.put(w.upTo(p.to), p.from)
	}
}

// whole text, as kind 0.
func (c *chart) whole() piece { return piece{kind: 0, from: 0, to: len(c.text)} }

// has a tree of that kind been found there?
func (c *chart) has(p piece) bool {
	_, there := c.spans[p]
	return there
}

// tree that was found first. What stands below was found ahead of it, so no kind
// comes twice while the piece stays the same. A text of n words is cut into fewer
// than 2n pieces, so that there are fewer than 2 * MaxText * MaxKinds rules: not MaxNodes.
func (c *chart) tree(p piece) api.Tree {
	rule := c.spans[p]
	body := c.grammar.Rules[rule].Body
	var kids []api.Tree
	to := p.to
	for dot := len(body); dot > 0; dot-- {
		start := c.starts[begun{rule: rule, dot: dot, from: p.from, to: to}]
		if part := body[dot-1]; part >= 0 {
			kids = append(kids, c.tree(piece{kind: part, from: start, to: to}))
		}
		to = start
	}
	slices.Reverse(kids)
	return api.Tree{Rule: rule, Kids: kids}
}
