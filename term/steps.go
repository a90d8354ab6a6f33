package term

import (
	"iter"
	"slices"

	"wordhoard/api"
)

func isSpot(t api.Term) bool { return t.Kind == api.TermApp && t.Kids[0].Kind == api.TermFn }

// spots of a term, in order: the ways to them, each of which holds until the next one is told.
func spots(t api.Term) iter.Seq[[]int] {
	return func(yield func([]int) bool) { goDown(t, nil, yield) }
}

// goDown tells the spots of a term to which a way leads; false: no more are wanted.
func goDown(t api.Term, way []int, yield func([]int) bool) bool {
	if isSpot(t) && !yield(way) {
		return false
	}
	for i, kid := range t.Kids {
		if !goDown(kid, append(way, i), yield) {
			return false
		}
	}
	return true
}

func firstSpot(t api.Term) ([]int, bool) {
	for way := range spots(t) {
		return way, true
	}
	return nil, false
}

// hasSpot tells whether a way leads to a spot.
func hasSpot(t api.Term, way []int) bool {
	for _, i := range way {
		if i < 0 || i >= len(t.Kids) {
			return false
		}
		t = t.Kids[i]
	}
	return isSpot(t)
}

// step at a spot that is there. What comes shares memory with the term, and within itself.
func step(t api.Term, spot []int) api.Term {
	if len(spot) == 0 {
		return put(t.Kids[1], t.Kids[0].Kids[0])
	}
	t.Kids = slices.Clone(t.Kids)
	t.Kids[spot[0]] = step(t.Kids[spot[0]], spot[1:])
	return t
}

// put a term in the place of a function's variable, in what that function is.
func put(t, within api.Term) api.Term {
	return withVars(within, 0, func(n, around int) api.Term {
		switch {
		case isInner(n, around):
			return variable(n)
		case n == around:
			return lifted(t, around)
		}
		return variable(n - 1)
	})
}

// lifted is a term as it is told within so many functions more.
func lifted(t api.Term, by int) api.Term {
	return withVars(t, 0, func(n, around int) api.Term {
		if isInner(n, around) {
			return variable(n)
		}
		return variable(n + by)
	})
}

// withVars is a term with others in the place of its variables, which are told
// by their numbers and how many functions of the term stand around them.
func withVars(t api.Term, around int, other func(n, around int) api.Term) api.Term {
	switch t.Kind {
	case api.TermVar:
		return other(t.N, around)
	case api.TermFn:
		around++
	}
	kids := make([]api.Term, len(t.Kids))
	for i, kid := range t.Kids {
		kids[i] = withVars(kid, around, other)
	}
	t.Kids = kids
	return t
}

// isInner tells whether a variable is that of one of the functions around it.
// A number may go above all ints on the way to a normal term, and come back:
// as a uint it is greater than the others all the while.
func isInner(n, around int) bool { return uint(n) < uint(around) }

func variable(n int) api.Term { return api.Term{Kind: api.TermVar, N: n} }

// termCopy shares nothing with a term, nor within itself.
func termCopy(t api.Term) api.Term {
	other := api.Term{Kind: t.Kind, N: t.N, Type: typeCopy(t.Type)}
	for _, kid := range t.Kids {
		other.Kids = append(other.Kids, termCopy(kid))
	}
	return other
}
