package sense

import (
	"slices"

	"wordhoard/api"
)

// nobody stands in the whole reason, which is of no individual.
const nobody = -1

// shownBy tells how a level is shown to hold (so), or not to hold: by all of
// its individuals, or by one; and whether the rest holds of these, or does not.
func (l level) shownBy(so bool) (all, rest bool) {
	return so != (l.quant == api.QuantSome), so != (l.quant == api.QuantNo)
}

// why the levels from one on hold of those in the places ahead of it (so), or
// do not, as it is: of all that show it, or of the first one.
func (r reading) why(at int, p people, so bool) []api.Reason {
	if at == len(r.levels) {
		return nil
	}
	l := r.levels[at]
	all, rest := l.shownBy(so)
	var kids []api.Reason
	for _, who := range l.all {
		next := p.with(l.place, who)
		if r.holdsOf(at+1, next) != rest {
			continue
		}
		kids = append(kids, api.Reason{Who: who, Kids: r.why(at+1, next, rest)})
		if !all {
			break
		}
	}
	return kids
}

// isGood tells whether these are good reasons for what why gives reasons for.
func (r reading) isGood(at int, p people, so bool, kids []api.Reason) bool {
	if at == len(r.levels) {
		return len(kids) == 0 && r.isSaid(p) == so
	}
	l := r.levels[at]
	all, rest := l.shownBy(so)
	if !l.isOf(kids, all) {
		return false
	}
	isBad := func(kid api.Reason) bool { return !r.isGood(at+1, p.with(l.place, kid.Who), rest, kid.Kids) }
	return !slices.ContainsFunc(kids, isBad)
}

// isOf tells whether reasons are of all individuals of a level, or of one.
func (l level) isOf(kids []api.Reason, all bool) bool {
	if !all {
		return len(kids) == 1 && slices.Contains(l.all, kids[0].Who)
	}
	return slices.EqualFunc(kids, l.all, func(kid api.Reason, who int) bool { return kid.Who == who })
}
