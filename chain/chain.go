// Package chain: which kinds of a grammar lead to which by bodies of just one kind.
package chain

import "wordhoard/api"

// Leads tells of each kind to which kinds it leads, by one such body or several.
type Leads [api.MaxKinds][api.MaxKinds]bool

// Of a grammar in which nothing is wrong.
func Of(g api.Grammar) Leads {
	var leads Leads
	for _, r := range g.Rules {
		if len(r.Body) == 1 && r.Body[0] >= 0 {
			leads[r.Head][r.Body[0]] = true
		}
	}
	for by := range leads {
		for from := range leads {
			for to := range leads {
				if leads[from][by] && leads[by][to] {
					leads[from][to] = true
				}
			}
		}
	}
	return leads
}

// GoRound tells whether a kind leads back to itself.
func (l Leads) GoRound() bool {
	for kind, to := range l {
		if to[kind] {
			return true
		}
	}
	return false
}
