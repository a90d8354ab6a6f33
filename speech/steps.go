package speech

import (
	"slices"

	"wordhoard/api"
)

// isRight tells whether each step of a proof is right.
func isRight(p api.Proof) bool {
	of, ok := before(p)
	if !ok || len(p.Kids) != len(of) {
		return false
	}
	for i, kid := range p.Kids {
		if !areSame(kid.Left, of[i].left) || !isSame(kid.Goal, of[i].goal) || !isRight(kid) {
			return false
		}
	}
	return true
}

// before tells of which sequents the last step of a proof is; false: it is no such step.
func before(p api.Proof) ([]sequent, bool) {
	switch p.Step {
	case api.StepOverLeft, api.StepUnderLeft, api.StepCut:
		return beforeTwo(p)
	}
	if p.At != 0 || p.N != 0 || len(p.Left) == 0 {
		return nil, false
	}
	switch {
	case p.Step == api.StepSame:
		return nil, len(p.Left) == 1 && isSame(p.Left[0], p.Goal)
	case p.Step == api.StepOver && p.Goal.Kind == api.PartOver:
		is, wants := sides(p.Goal)
		return []sequent{{left: around(p.Left, wants, nil), goal: is}}, true
	case p.Step == api.StepUnder && p.Goal.Kind == api.PartUnder:
		is, wants := sides(p.Goal)
		return []sequent{{left: around(nil, wants, p.Left), goal: is}}, true
	}
	return nil, false
}

// beforeTwo is before of a step that is of two sequents, the first one of which has N parts of Left from At on.
func beforeTwo(p api.Proof) ([]sequent, bool) {
	if p.At < 0 || p.N < 1 || p.At > len(p.Left) || p.N > len(p.Left)-p.At {
		return nil, false
	}
	ahead, own, behind := p.Left[:p.At], p.Left[p.At:p.At+p.N], p.Left[p.At+p.N:]
	var is, wants api.Part
	switch {
	case p.Step == api.StepOverLeft && len(ahead) > 0 && ahead[len(ahead)-1].Kind == api.PartOver:
		is, wants = sides(ahead[len(ahead)-1])
		ahead = ahead[:len(ahead)-1]
	case p.Step == api.StepUnderLeft && len(behind) > 0 && behind[0].Kind == api.PartUnder:
		is, wants = sides(behind[0])
		behind = behind[1:]
	case p.Step == api.StepCut && len(p.Kids) > 0:
		is, wants = p.Kids[0].Goal, p.Kids[0].Goal
	default:
		return nil, false
	}
	return []sequent{{left: own, goal: wants}, {left: around(ahead, is, behind), goal: p.Goal}}, true
}

// around a part stand some ahead and some behind.
func around(ahead []api.Part, p api.Part, behind []api.Part) []api.Part {
	return slices.Concat(ahead, []api.Part{p}, behind)
}
