package grammar

import (
	"slices"

	"wordhoard/api"
)

// checkUpTo tells what is wrong with a grammar of at most so many kinds and rules.
func checkUpTo(g api.Grammar, kinds, rules int) api.Errno {
	isNone := func(part int) bool { return part >= g.Kinds || part < -api.MaxWord }
	switch {
	case g.Kinds < 1, g.Kinds > kinds, len(g.Rules) > rules:
		return api.ErrMany
	case slices.ContainsFunc(g.Rules, func(r api.Rule) bool { return len(r.Body) == 0 }):
		return api.ErrForm
	case slices.ContainsFunc(g.Rules, func(r api.Rule) bool { return len(r.Body) > api.MaxBody }):
		return api.ErrLong
	case slices.ContainsFunc(g.Rules, func(r api.Rule) bool { return r.Head < 0 || r.Head >= g.Kinds }),
		slices.ContainsFunc(g.Rules, func(r api.Rule) bool { return slices.ContainsFunc(r.Body, isNone) }):
		return api.ErrRange
	}
	return api.OK
}

func checkText(text []int) api.Errno {
	switch {
	case len(text) > api.MaxText:
		return api.ErrLong
	case slices.ContainsFunc(text, func(word int) bool { return word < 1 || word > api.MaxWord }):
		return api.ErrRange
	}
	return api.OK
}

func checkBoth(g api.Grammar, text []int) api.Errno {
	if e := Check(g); e != api.OK {
		return e
	}
	return checkText(text)
}
