package sense

import (
	"slices"

	"wordhoard/api"
)

// How many there may be at most.
const (
	maxNouns     = 10
	maxVerbs     = 10
	maxLists     = 200
	maxPlaces    = 3
	maxSentences = 20
	maxMentions  = 10
	maxSort      = 3
)

// Check tells what is wrong with a scene.
func Check(s api.Scene) api.Errno {
	if s.Size < 0 || s.Size > api.MaxScene {
		return api.ErrRange
	}
	hasMany := func(v api.Verb) bool { return len(v.Of) > maxLists }
	if len(s.Nouns) > maxNouns || len(s.Verbs) > maxVerbs || slices.ContainsFunc(s.Verbs, hasMany) {
		return api.ErrMany
	}
	if slices.ContainsFunc(s.Nouns, func(noun int) bool { return noun < 0 || noun >= 1<<s.Size }) {
		return api.ErrRange
	}
	for _, v := range s.Verbs {
		if e := checkVerb(v, s.Size); e != api.OK {
			return e
		}
	}
	return api.OK
}

// checkVerb of a scene of so many individuals.
func checkVerb(v api.Verb, size int) api.Errno {
	if v.Places < 1 || v.Places > maxPlaces {
		return api.ErrRange
	}
	for _, list := range v.Of {
		if len(list) != v.Places {
			return api.ErrForm
		}
		if slices.ContainsFunc(list, func(who int) bool { return who < 0 || who >= size }) {
			return api.ErrRange
		}
	}
	return api.OK
}

// checkSaying in a scene in which nothing is wrong.
func checkSaying(s api.Scene, t api.Saying) api.Errno {
	isOther := func(p api.Phrase) bool { return p.Quant < api.QuantEvery || p.Quant > api.QuantNo }
	hasNoNoun := func(p api.Phrase) bool { return p.Noun < 0 || p.Noun >= len(s.Nouns) }
	switch {
	case t.Verb < 0 || t.Verb >= len(s.Verbs):
		return api.ErrNone
	case len(t.Phrases) != s.Verbs[t.Verb].Places:
		return api.ErrForm
	case slices.ContainsFunc(t.Phrases, isOther):
		return api.ErrKind
	case slices.ContainsFunc(t.Phrases, hasNoNoun):
		return api.ErrNone
	}
	return api.OK
}

// checkBoth tells what is wrong with a scene, then with a saying.
func checkBoth(s api.Scene, t api.Saying) api.Errno {
	if e := Check(s); e != api.OK {
		return e
	}
	return checkSaying(s, t)
}

// checkAll tells what is wrong with a scene, then with a saying, then with an order.
func checkAll(s api.Scene, t api.Saying, order []int) api.Errno {
	if e := checkBoth(s, t); e != api.OK {
		return e
	}
	if !isOrder(order, len(t.Phrases)) {
		return api.ErrForm
	}
	return api.OK
}

// isOrder tells whether each of so many places stands there once.
func isOrder(order []int, places int) bool {
	if len(order) != places {
		return false
	}
	for place := range places {
		if !slices.Contains(order, place) {
			return false
		}
	}
	return true
}

// checkMentions of all sentences.
func checkMentions(l [][]api.Mention) api.Errno {
	isLong := func(sentence []api.Mention) bool { return len(sentence) > maxMentions }
	if len(l) > maxSentences || slices.ContainsFunc(l, isLong) {
		return api.ErrMany
	}
	for _, sentence := range l {
		for _, m := range sentence {
			if m.Kind < api.MentionName || m.Kind > api.MentionIt {
				return api.ErrKind
			}
			if m.Sort < 1 || m.Sort > maxSort {
				return api.ErrRange
			}
		}
	}
	return api.OK
}
