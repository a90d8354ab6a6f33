package speech

import "wordhoard/api"

// prove a sequent without cuts. A goal that is an Over or Under comes last of
// that; one that is a base part comes of a part that is it in the end, if one
// takes from that side by side what it wants. (Whatever has a proof has such
// a one.)
func prove(s sequent) (api.Proof, bool) {
	if !isEven(s) {
		return api.Proof{}, false
	}
	switch s.goal.Kind {
	case api.PartOver:
		return proveGoal(s, api.StepOver)
	case api.PartUnder:
		return proveGoal(s, api.StepUnder)
	}
	for at, p := range s.left {
		if inTheEnd(p).N != s.goal.N {
			continue
		}
		if proof, ok := proveFrom(s, at); ok {
			return proof, true
		}
	}
	return api.Proof{}, false
}

// proveGoal by the step that makes it.
func proveGoal(s sequent, step int) (api.Proof, bool) {
	p := api.Proof{Step: step, Left: s.left, Goal: s.goal}
	of, _ := before(p)
	kid, ok := prove(of[0])
	p.Kids = []api.Proof{kid}
	return p, ok
}

// proveFrom the part at a place, which is to become the goal.
func proveFrom(s sequent, at int) (api.Proof, bool) {
	if s.left[at].Kind == api.PartBase {
		p := api.Proof{Step: api.StepSame, Left: s.left, Goal: s.goal}
		_, ok := before(p)
		return p, ok
	}
	for n := 1; n < len(s.left); n++ {
		p, then := taking(s, at, n)
		of, ok := before(p)
		if !ok {
			break
		}
		first, ok := prove(of[0])
		if !ok {
			continue
		}
		if second, ok := proveFrom(of[1], then); ok {
			p.Kids = []api.Proof{first, second}
			return p, true
		}
	}
	return api.Proof{}, false
}

// taking is the step by which the part at a place gets what it wants out of n
// parts beside it; and where it stands then.
func taking(s sequent, at, n int) (api.Proof, int) {
	p := api.Proof{Step: api.StepOverLeft, Left: s.left, Goal: s.goal, At: at + 1, N: n}
	if s.left[at].Kind == api.PartUnder {
		p.Step, p.At = api.StepUnderLeft, at-n
		return p, at - n
	}
	return p, at
}
