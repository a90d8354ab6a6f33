package chance

import (
	"slices"

	"wordhoard/api"
	"wordhoard/chain"
	"wordhoard/grammar"
)

// Check tells what is wrong with a chance grammar.
func Check(c api.Chances) api.Errno {
	if e := grammar.Check(c.Grammar); e != api.OK {
		return e
	}
	switch {
	case chain.Of(c.Grammar).GoRound():
		return api.ErrForm
	case len(c.Weights) != len(c.Grammar.Rules):
		return api.ErrMany
	case slices.ContainsFunc(c.Weights, func(w int) bool { return w < 1 || w > api.MaxWeight }):
		return api.ErrRange
	}
	return api.OK
}

func checkText(text []int) api.Errno {
	switch {
	case len(text) < 1, len(text) > api.MaxSpoken:
		return api.ErrLong
	case slices.ContainsFunc(text, func(word int) bool { return word < 1 || word > api.MaxWord }):
		return api.ErrRange
	}
	return api.OK
}

func checkBoth(c api.Chances, text []int) api.Errno {
	if e := Check(c); e != api.OK {
		return e
	}
	return checkText(text)
}
