package grammar

import (
	"wordhoard/chain"
	"wordhoard/numbers"
	"wordhoard/span"
)

// tally of trees.
type tally struct {
	n       numbers.Whole
	endless bool
}

func (a tally) isNone() bool { return !a.endless && a.n.IsZero() }

func (a tally) isMany() bool { return a.endless || a.n.Against(numbers.Of(1)) > 0 }

func (a tally) plus(b tally) tally {
	if a.endless || b.endless {
		return tally{endless: true}
	}
	return tally{n: a.n.Plus(b.n)}
}

func (a tally) times(b tally) tally {
	switch {
	case a.isNone() || b.isNone():
		return tally{}
	case a.endless || b.endless:
		return tally{endless: true}
	}
	return tally{n: a.n.Times(b.n)}
}

// trees of kind 0 of the whole text. A kind that leads back to itself has trees
// without end wherever it has one; elsewhere all ways down come to an end.
func (c *chart) trees() tally {
	leads := chain.Of(c.grammar)
	ofKinds := map[piece]tally{}
	ofRests := map[begun]tally{}
	var ofKind func(p piece) tally
	var ofRest func(b begun) tally
	ofKind = func(p piece) tally {
		if !c.has(p) {
			return tally{}
		}
		if leads[p.kind][p.kind] {
			return tally{endless: true}
		}
		sum, there := ofKinds[p]
		if there {
			return sum
		}
		for i, r := range c.grammar.Rules {
			if r.Head == p.kind {
				sum = sum.plus(ofRest(begun{rule: i, dot: 0, from: p.from, to: p.to}))
			}
		}
		ofKinds[p] = sum
		return sum
	}
	// Here it is the parts from the dot on that span the text from place to place.
	ofRest = func(b begun) tally {
		body := c.grammar.Rules[b.rule].Body
		if b.dot == len(body) {
			return tally{n: numbers.Of(1)}
		}
		sum, there := ofRests[b]
		if there {
			return sum
		}
		first, last := span.Ends(b.from, b.to, len(body)-b.dot-1)
		for end := first; end <= last; end++ {
			here := c.ofWord(body[b.dot], b.from, end)
			if body[b.dot] >= 0 {
				here = ofKind(piece{kind: body[b.dot], from: b.from, to: end})
			}
			if !here.isNone() {
				sum = sum.plus(here.times(ofRest(begun{rule: b.rule, dot: b.dot + 1, from: end, to: b.to})))
			}
		}
		ofRests[b] = sum
		return sum
	}
	return ofKind(c.whole())
}

// ofWord is one, if the piece is just that word.
func (c *chart) ofWord(part, from, to int) tally {
	if span.IsWord(c.text, part, from, to) {
		return tally{n: numbers.Of(1)}
	}
	return tally{}
}
