package prove

import (
	"slices"

	"wordhoard/api"
)

// argument for a goal: no two lines have the same claim, so that there are
// at most as many as claims, which is less than MaxArgued.
type argument struct {
	goal  api.Claim
	lines []api.Line
	at    map[api.Claim]int // the number of the line with that claim
}

// begun with all that is there at first: premises, and each literal itself.
func begun(premises []api.Claim, goal api.Claim) *argument {
	a := &argument{goal: goal, at: map[api.Claim]int{}}
	for i, p := range premises {
		a.put(api.LineGiven, p, i)
	}
	for _, x := range literals() {
		a.put(api.LineSelf, all(x, x))
	}
	return a
}

func literals() []int {
	var l []int
	for n := 1; n <= api.MaxNouns; n++ {
		l = append(l, n, -n)
	}
	return l
}

// put a line with a claim, if there is none yet.
func (a *argument) put(rule int, c api.Claim, from ...int) {
	if _, ok := a.at[c]; ok {
		return
	}
	a.at[c] = len(a.lines)
	a.lines = append(a.lines, api.Line{Rule: rule, Claim: c, From: slices.Clone(from)})
}

// come puts a line with a claim, if it comes by a rule of others that have lines.
func (a *argument) come(rule int, c api.Claim, of ...api.Claim) {
	var from []int
	for _, p := range of {
		n, ok := a.at[p]
		if !ok {
			return
		}
		from = append(from, n)
	}
	if comes(rule, c, of...) {
		a.put(rule, c, from...)
	}
}

// find the goal's line, in all that comes of what is there; false: it does not come.
func (a *argument) find() (int, bool) {
	for i := 0; i < len(a.lines); i++ {
		if at, ok := a.at[a.goal]; ok {
			return at, true
		}
		if p := a.lines[i].Claim; p.Some {
			a.useSome(p)
		} else {
			a.useAll(p)
		}
	}
	return 0, false
}

// useAll puts what comes of an all claim, alone and with others.
func (a *argument) useAll(p api.Claim) {
	a.come(api.LineTurn, all(-p.B, -p.A), p)
	a.come(api.LineClash, a.goal, p, some(p.A, -p.B))
	for _, x := range literals() {
		a.come(api.LineVoid, all(p.A, x), p)
		a.come(api.LineFull, all(x, p.B), p)
		a.come(api.LineChain, all(p.A, x), p, all(p.B, x))
		a.come(api.LineChain, all(x, p.B), all(x, p.A), p)
		a.come(api.LineLead, some(x, p.B), some(x, p.A), p)
	}
}

// useSome puts what comes of a some claim, alone and with others.
func (a *argument) useSome(p api.Claim) {
	a.come(api.LineSwap, some(p.B, p.A), p)
	a.come(api.LineThere, some(p.A, p.A), p)
	a.come(api.LineClash, a.goal, all(p.A, -p.B), p)
	for _, x := range literals() {
		a.come(api.LineLead, some(p.A, x), p, all(p.B, x))
	}
}

// needed lines: the last one, and those of which it comes.
func needed(lines []api.Line) []api.Line {
	isNeeded := make([]bool, len(lines))
	isNeeded[len(lines)-1] = true
	for i, l := range slices.Backward(lines) {
		if isNeeded[i] && l.Rule != api.LineGiven {
			for _, n := range l.From {
				isNeeded[n] = true
			}
		}
	}
	var kept []api.Line
	number := make([]int, len(lines)) // by which a line is told among those that are kept
	for i, l := range lines {
		if !isNeeded[i] {
			continue
		}
		number[i] = len(kept)
		if l.Rule != api.LineGiven {
			l.From = renumbered(l.From, number)
		}
		kept = append(kept, l)
	}
	return kept
}

func renumbered(from, number []int) []int {
	var other []int
	for _, n := range from {
		other = append(other, number[n])
	}
	return other
}
