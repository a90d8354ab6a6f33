package grammar

import (
	"wordhoard/api"
	"wordhoard/chain"
)

// Normal is a normal grammar of the same texts.
func Normal(g api.Grammar) (api.Grammar, api.Errno) {
	if e := Check(g); e != api.OK {
		return api.Grammar{}, e
	}
	n := normaler{made: api.Grammar{Kinds: g.Kinds}}
	leads := chain.Of(g)
	for _, r := range g.Rules {
		if len(r.Body) == 1 && r.Body[0] >= 0 {
			continue
		}
		body := n.fineBody(r.Body)
		for kind := range g.Kinds {
			if kind == r.Head || leads[kind][r.Head] {
				n.put(kind, body...)
			}
		}
	}
	return n.made, api.OK
}

// normaler makes a normal grammar. The kinds of the old one keep their numbers;
// behind them stand such of one word, and such of the ends of long bodies.
type normaler struct {
	made  api.Grammar
	words [api.MaxWord + 1]int // the kinds of words; 0: there is none yet
}

// put a rule.
func (n *normaler) put(head int, body ...int) {
	n.made.Rules = append(n.made.Rules, api.Rule{Head: head, Body: append([]int(nil), body...)})
}

// newKind has no rules yet.
func (n *normaler) newKind() int {
	n.made.Kinds++
	return n.made.Kinds - 1
}

// fineBody is one word, or two kinds, and has the texts of a body that is not just one kind.
func (n *normaler) fineBody(body []int) []int {
	if len(body) == 1 {
		return body
	}
	first := n.kindOf(body[0])
	if len(body) == 2 {
		return []int{first, n.kindOf(body[1])}
	}
	rest := n.newKind()
	n.put(rest, n.fineBody(body[1:])...)
	return []int{first, rest}
}

// kindOf is a kind that has just the texts of a part.
func (n *normaler) kindOf(part int) int {
	if part >= 0 {
		return part
	}
	if n.words[-part] == 0 {
		n.words[-part] = n.newKind()
		n.put(n.words[-part], part)
	}
	return n.words[-part]
}
