package speech

import (
	"slices"

	"wordhoard/api"
	"wordhoard/nest"
)

// letters is how many base parts there are.
const letters = 10

// maxChoice is how many parts a word may be.
const maxChoice = 3

func partsIn(p api.Part) []api.Part { return p.Kids }

func proofsIn(p api.Proof) []api.Proof { return p.Kids }

// wrongWith tells what is wrong with a part, but for those in it.
func wrongWith(p api.Part) api.Errno {
	kids, most := 2, 0
	switch p.Kind {
	case api.PartBase:
		kids, most = 0, letters-1
	case api.PartOver, api.PartUnder:
	default:
		return api.ErrKind
	}
	switch {
	case len(p.Kids) != kids:
		return api.ErrForm
	case p.N < 0, p.N > most:
		return api.ErrRange
	}
	return api.OK
}

// checkRow tells what is wrong with parts, in order, then with a goal.
func checkRow(left []api.Part, goal api.Part) api.Errno {
	for _, p := range left {
		if e := Check(p); e != api.OK {
			return e
		}
	}
	return Check(goal)
}

// checkSequent tells why a sequent is none that is proved or not.
func checkSequent(left []api.Part, goal api.Part) api.Errno {
	if len(left) < 1 || len(left) > api.MaxRow {
		return api.ErrMany
	}
	return checkSlashes(left, goal)
}

// checkSlashes tells what is wrong with parts and a goal, then whether they have too many Overs and Unders.
func checkSlashes(left []api.Part, goal api.Part) api.Errno {
	if e := checkRow(left, goal); e != api.OK {
		return e
	}
	slashes := slashesIn(goal)
	for _, p := range left {
		slashes += slashesIn(p)
	}
	if slashes > api.MaxSlashes {
		return api.ErrLong
	}
	return api.OK
}

// slashesIn a part: each has two parts, so that there is one base part more than Overs and Unders.
func slashesIn(p api.Part) int { return nest.Count(p, partsIn, api.MaxPart) / 2 }

// checkWords tells what is wrong with words that may be several parts, and with a goal.
func checkWords(words [][]api.Part, goal api.Part) api.Errno {
	isOff := func(word []api.Part) bool { return len(word) < 1 || len(word) > maxChoice }
	if len(words) < 1 || len(words) > api.MaxRow || slices.ContainsFunc(words, isOff) {
		return api.ErrMany
	}
	return checkSlashes(slices.Concat(words...), goal)
}

// hasLong tells whether too many parts stand in a left of a proof.
func hasLong(p api.Proof) bool {
	return len(p.Left) > api.MaxLeft || slices.ContainsFunc(p.Kids, hasLong)
}

// checkParts tells what is wrong with the parts of a proof, then with those of the proofs in it.
func checkParts(p api.Proof) api.Errno {
	if e := checkRow(p.Left, p.Goal); e != api.OK {
		return e
	}
	for _, kid := range p.Kids {
		if e := checkParts(kid); e != api.OK {
			return e
		}
	}
	return api.OK
}
