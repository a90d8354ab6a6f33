package chance

import (
	"wordhoard/api"
	"wordhoard/span"
)

// pick is what is worth most: a rule, or where a part of a body ends.
type pick struct {
	worth worth
	by    int
}

// picks of a text: of each piece what is worth most.
type picks struct {
	odds   odds
	text   []int
	ofKind func(p piece) pick
	ofRest func(s some) pick
}

// picksOf a text: the first of those that are worth most.
func picksOf(o odds, text []int) *picks {
	k := &picks{odds: o, text: text}
	ofKinds := map[piece]pick{}
	ofRests := map[some]pick{}
	k.ofKind = func(p piece) pick {
		most, there := ofKinds[p]
		if there {
			return most
		}
		for i, r := range o.rules {
			if r.Head == p.kind {
				rest := k.ofRest(some{rule: i, dot: 0, from: p.from, to: p.to})
				most = o.better(most, pick{worth: o.ofRule(i).times(rest.worth), by: i})
			}
		}
		ofKinds[p] = most
		return most
	}
	k.ofRest = func(s some) pick {
		body := o.rules[s.rule].Body
		if s.dot == len(body) {
			return pick{worth: certainIf(s.from == s.to)}
		}
		most, there := ofRests[s]
		if there {
			return most
		}
		first, last := span.Ends(s.from, s.to, len(body)-s.dot-1)
		for end := first; end <= last; end++ {
			if here := k.ofPart(body[s.dot], s.from, end); !here.isNone() {
				rest := k.ofRest(some{rule: s.rule, dot: s.dot + 1, from: end, to: s.to})
				most = o.better(most, pick{worth: here.times(rest.worth), by: end})
			}
		}
		ofRests[s] = most
		return most
	}
	return k
}

// better of two: the first one, if they are worth the same.
func (o odds) better(a, b pick) pick {
	if o.isAbove(b.worth, a.worth) {
		return b
	}
	return a
}

// ofPart of a body.
func (k *picks) ofPart(part, from, to int) worth {
	if part >= 0 {
		return k.ofKind(piece{kind: part, from: from, to: to}).worth
	}
	return certainIf(span.IsWord(k.text, part, from, to))
}

// tree that was picked.
func (k *picks) tree(p piece) api.Tree {
	t := api.Tree{Rule: k.ofKind(p).by}
	from := p.from
	for dot, part := range k.odds.rules[t.Rule].Body {
		end := k.ofRest(some{rule: t.Rule, dot: dot, from: from, to: p.to}).by
		if part >= 0 {
			t.Kids = append(t.Kids, k.tree(piece{kind: part, from: from, to: end}))
		}
		from = end
	}
	return t
}
