package grammar

import (
	"wordhoard/api"
	"wordhoard/nest"
)

// Yield is the text of a tree.
func Yield(g api.Grammar, t api.Tree) ([]int, api.Errno) {
	if e := Check(g); e != api.OK {
		return nil, e
	}
	if nest.Count(t, treesIn, api.MaxNodes) > api.MaxNodes {
		return nil, api.ErrMany
	}
	return yield(g, t, nil)
}

func treesIn(t api.Tree) []api.Tree { return t.Kids }

// yield puts the words of a tree behind others.
func yield(g api.Grammar, t api.Tree, text []int) ([]int, api.Errno) {
	if t.Rule < 0 || t.Rule >= len(g.Rules) {
		return nil, api.ErrNone
	}
	body := g.Rules[t.Rule].Body
	if len(t.Kids) != kindsIn(body) {
		return nil, api.ErrForm
	}
	kids := t.Kids
	for _, part := range body {
		if part < 0 {
			text = append(text, -part)
			continue
		}
		var e api.Errno
		if text, e = yield(g, kids[0], text); e != api.OK {
			return nil, e
		}
		if g.Rules[kids[0].Rule].Head != part {
			return nil, api.ErrForm
		}
		kids = kids[1:]
	}
	return text, api.OK
}

func kindsIn(body []int) int {
	n := 0
	for _, part := range body {
		if part >= 0 {
			n++
		}
	}
	return n
}
