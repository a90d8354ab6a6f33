package chance

import "wordhoard/span"

// piece of a text, and a kind that spans it.
type piece struct{ kind, from, to int }

// some parts of a rule's body that span a piece of a text: those from the dot on, or those ahead of it.
type some struct{ rule, dot, from, to int }

// trees of a text: what those of a piece of it are worth together.
type trees struct {
	odds    odds
	text    []int
	ofKind  func(p piece) worth
	ofRest  func(s some) worth  // the parts from the dot on
	ofStart func(s some) worth  // the parts ahead of the dot
	around  func(p piece) worth // what stands around a piece in trees of the whole text
}

// treesOf a text. No kind leads back to itself, so all ways down and up come to an end.
func treesOf(o odds, text []int) *trees {
	t := &trees{odds: o, text: text}
	t.lookDown()
	t.lookUp()
	return t
}

// whole text, as kind 0.
func (t *trees) whole() piece { return piece{kind: 0, from: 0, to: len(t.text)} }

// lookDown makes the functions that tell what stands in a piece.
func (t *trees) lookDown() {
	ofKinds := map[piece]worth{}
	ofRests := map[some]worth{}
	t.ofKind = func(p piece) worth {
		sum, there := ofKinds[p]
		if there {
			return sum
		}
		for i, r := range t.odds.rules {
			if r.Head == p.kind {
				rest := t.ofRest(some{rule: i, dot: 0, from: p.from, to: p.to})
				sum = t.odds.plus(sum, t.odds.ofRule(i).times(rest))
			}
		}
		ofKinds[p] = sum
		return sum
	}
	t.ofRest = func(s some) worth {
		body := t.odds.rules[s.rule].Body
		if s.dot == len(body) {
			return certainIf(s.from == s.to)
		}
		sum, there := ofRests[s]
		if there {
			return sum
		}
		first, last := span.Ends(s.from, s.to, len(body)-s.dot-1)
		for end := first; end <= last; end++ {
			if here := t.ofPart(body[s.dot], s.from, end); !here.isNone() {
				rest := t.ofRest(some{rule: s.rule, dot: s.dot + 1, from: end, to: s.to})
				sum = t.odds.plus(sum, here.times(rest))
			}
		}
		ofRests[s] = sum
		return sum
	}
}

// ofPart of a body.
func (t *trees) ofPart(part, from, to int) worth {
	if part >= 0 {
		return t.ofKind(piece{kind: part, from: from, to: to})
	}
	return certainIf(span.IsWord(t.text, part, from, to))
}

// lookUp makes the functions that tell what stands around a piece.
func (t *trees) lookUp() {
	ofStarts := map[some]worth{}
	arounds := map[piece]worth{}
	t.ofStart = func(s some) worth {
		if s.dot == 0 {
			return certainIf(s.from == s.to)
		}
		sum, there := ofStarts[s]
		if there {
			return sum
		}
		part := t.odds.rules[s.rule].Body[s.dot-1]
		for start := s.from; start < s.to; start++ {
			if ahead := t.ofStart(some{rule: s.rule, dot: s.dot - 1, from: s.from, to: start}); !ahead.isNone() {
				sum = t.odds.plus(sum, ahead.times(t.ofPart(part, start, s.to)))
			}
		}
		ofStarts[s] = sum
		return sum
	}
	t.around = func(p piece) worth {
		sum, there := arounds[p]
		if there {
			return sum
		}
		sum = certainIf(p == t.whole())
		for i, r := range t.odds.rules {
			for dot, part := range r.Body {
				if part == p.kind {
					sum = t.odds.plus(sum, t.aroundPart(some{rule: i, dot: dot, from: p.from, to: p.to}))
				}
			}
		}
		arounds[p] = sum
		return sum
	}
}

// aroundPart tells what stands around a piece that is the part behind the dot.
func (t *trees) aroundPart(s some) worth {
	var sum worth
	for from := range s.from + 1 {
		ahead := t.ofStart(some{rule: s.rule, dot: s.dot, from: from, to: s.from})
		if ahead.isNone() {
			continue
		}
		for to := s.to; to <= len(t.text); to++ {
			behind := t.ofRest(some{rule: s.rule, dot: s.dot + 1, from: s.to, to: to})
			if behind.isNone() {
				continue
			}
			above := t.around(piece{kind: t.odds.rules[s.rule].Head, from: from, to: to})
			sum = t.odds.plus(sum, above.times(t.odds.ofRule(s.rule)).times(ahead).times(behind))
		}
	}
	return sum
}
