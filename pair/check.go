package pair

import (
	"slices"

	"wordhoard/api"
	"wordhoard/chain"
)

// Check tells what is wrong with a pairing.
func Check(g api.Pairing) api.Errno {
	isAny := func(is func(r api.Pair) bool) bool { return slices.ContainsFunc(g.Rules, is) }
	switch {
	case g.Kinds < 1, g.Kinds > api.MaxKinds, len(g.Rules) > api.MaxRules:
		return api.ErrMany
	case isAny(func(r api.Pair) bool { return len(r.Left) == 0 || len(r.Right) == 0 }):
		return api.ErrForm
	case isAny(func(r api.Pair) bool { return len(r.Left) > api.MaxBody || len(r.Right) > api.MaxBody }):
		return api.ErrLong
	case isAny(func(r api.Pair) bool { return isOut(r, g.Kinds) }):
		return api.ErrRange
	case isAny(func(r api.Pair) bool { return !hasEachOnce(r) }):
		return api.ErrForm
	case chain.Of(leftOf(g)).GoRound(), chain.Of(leftOf(turned(g))).GoRound():
		return api.ErrForm
	}
	return api.OK
}

// isOut tells whether something in a rule of a pairing of so many kinds is none.
func isOut(r api.Pair, kinds int) bool {
	numbered := len(kindsOf(r.Left))
	isNone := func(part, below int) bool { return part < -api.MaxWord || part >= below }
	return r.Head < 0 || r.Head >= kinds ||
		slices.ContainsFunc(r.Left, func(part int) bool { return isNone(part, kinds) }) ||
		slices.ContainsFunc(r.Right, func(part int) bool { return isNone(part, numbered) })
}

// hasEachOnce tells whether Right has each kind of Left once.
func hasEachOnce(r api.Pair) bool {
	which := kindsOf(r.Right)
	slices.Sort(which)
	for i, one := range which {
		if one != i {
			return false
		}
	}
	return len(which) == len(kindsOf(r.Left))
}

// kindsOf a body: its parts that are no words; of a Right, which kinds of Left these are.
func kindsOf(body []int) []int {
	var kinds []int
	for _, part := range body {
		if part >= 0 {
			kinds = append(kinds, part)
		}
	}
	return kinds
}

// leftOf a pairing is a grammar.
func leftOf(g api.Pairing) api.Grammar {
	left := api.Grammar{Kinds: g.Kinds}
	for _, r := range g.Rules {
		left.Rules = append(left.Rules, api.Rule{Head: r.Head, Body: r.Left})
	}
	return left
}

// turned is a pairing the other way round, if each Right has each kind of its Left once.
func turned(g api.Pairing) api.Pairing {
	t := api.Pairing{Kinds: g.Kinds}
	for _, r := range g.Rules {
		t.Rules = append(t.Rules, turnedRule(r))
	}
	return t
}

func turnedRule(r api.Pair) api.Pair {
	kinds, which := kindsOf(r.Left), kindsOf(r.Right)
	t := api.Pair{Head: r.Head}
	for _, part := range r.Right {
		if part >= 0 {
			part = kinds[part]
		}
		t.Left = append(t.Left, part)
	}
	met := 0
	for _, part := range r.Left {
		if part >= 0 {
			part = slices.Index(which, met)
			met++
		}
		t.Right = append(t.Right, part)
	}
	return t
}

func checkText(text []int) api.Errno {
	switch {
	case len(text) < 1, len(text) > api.MaxSpoken:
		return api.ErrLong
	case slices.ContainsFunc(text, func(word int) bool { return word < 1 || word > api.MaxWord }):
		return api.ErrRange
	}
	return api.OK
}
