package speech

import (
	"slices"

	"wordhoard/api"
)

// sequent: the parts of left, one behind the other, are the goal.
type sequent struct {
	left []api.Part
	goal api.Part
}

// sides of an Over or Under: what it is, if what it wants stands beside it.
func sides(p api.Part) (is, wants api.Part) {
	if p.Kind == api.PartOver {
		return p.Kids[0], p.Kids[1]
	}
	return p.Kids[1], p.Kids[0]
}

func isSame(p, q api.Part) bool {
	return p.Kind == q.Kind && p.N == q.N && areSame(p.Kids, q.Kids)
}

func areSame(l, m []api.Part) bool { return slices.EqualFunc(l, m, isSame) }

func partsCopy(l []api.Part) []api.Part {
	var other []api.Part
	for _, p := range l {
		other = append(other, partCopy(p))
	}
	return other
}

func partCopy(p api.Part) api.Part {
	p.Kids = partsCopy(p.Kids)
	return p
}

// proofCopy shares nothing with a proof, nor within itself.
func proofCopy(p api.Proof) api.Proof {
	kids := p.Kids
	p.Left, p.Goal, p.Kids = partsCopy(p.Left), partCopy(p.Goal), nil
	for _, kid := range kids {
		p.Kids = append(p.Kids, proofCopy(kid))
	}
	return p
}

// tally tells of each base part how often it is given, less how often it is wanted.
type tally [letters]int

func (t *tally) add(p api.Part, times int) {
	if p.Kind == api.PartBase {
		t[p.N] += times
		return
	}
	is, wants := sides(p)
	t.add(is, times)
	t.add(wants, -times)
}

// isEven tells whether a sequent has as many of each base part on either side, without which it has no proof (VAN BENTHEM).
func isEven(s sequent) bool {
	var t tally
	t.add(s.goal, -1)
	for _, p := range s.left {
		t.add(p, 1)
	}
	return t == tally{}
}

// inTheEnd is the base part that a part is when all that it wants stands beside it.
func inTheEnd(p api.Part) api.Part {
	for p.Kind != api.PartBase {
		p, _ = sides(p)
	}
	return p
}
