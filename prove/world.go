package prove

import (
	"slices"

	"wordhoard/api"
)

// individuals is how many there are that differ, as many as a world may have.
const individuals = 1 << api.MaxNouns

func isNobody(who int) bool { return who < 0 || who >= individuals }

func isLiteral(n int) bool { return n != 0 && n >= -api.MaxNouns && n <= api.MaxNouns }

// is tells whether an individual is a literal.
func is(who, literal int) bool {
	if literal < 0 {
		return !is(who, -literal)
	}
	return who>>(literal-1)&1 == 1
}

func holds(world []int, c api.Claim) bool {
	areBoth := func(who int) bool { return is(who, c.A) && is(who, c.B) }
	isOff := func(who int) bool { return is(who, c.A) && !is(who, c.B) }
	if c.Some {
		return slices.ContainsFunc(world, areBoth)
	}
	return !slices.ContainsFunc(world, isOff)
}

// against a claim is a world, if there is one: that of all individuals that
// may be in such a world. If one premise does not hold in it, or the claim
// does, that is so in each world of some of them.
func against(premises []api.Claim, c api.Claim) ([]int, bool) {
	var world []int
	for who := range individuals {
		if mayBe(who, premises, c) {
			world = append(world, who)
		}
	}
	fails := func(p api.Claim) bool { return !holds(world, p) }
	if slices.ContainsFunc(premises, fails) || holds(world, c) {
		return nil, false
	}
	return world, true
}

// mayBe tells whether an individual may be in a world in which premises hold, and a claim does not.
func mayBe(who int, premises []api.Claim, c api.Claim) bool {
	alone := []int{who}
	isOff := func(p api.Claim) bool { return !p.Some && !holds(alone, p) }
	return !slices.ContainsFunc(premises, isOff) && !(c.Some && holds(alone, c))
}
