package sense

import (
	"math"
	"slices"
	"testing"

	"wordhoard/api"
)

// wrongScenes, and what is wrong with them: each has what stands behind it wrong too, where it can.
func wrongScenes() []struct {
	name string
	s    api.Scene
	e    api.Errno
} {
	lists := make([][]int, 201)
	many := api.Verb{Of: lists}
	noPlaces, short, nobody := api.Verb{}, api.Verb{Places: 2, Of: [][]int{{9}}}, api.Verb{Places: 2, Of: [][]int{{0, 9}}}
	with := func(size int, nouns []int, verbs ...api.Verb) api.Scene {
		return api.Scene{Size: size, Nouns: nouns, Verbs: verbs}
	}
	return []struct {
		name string
		s    api.Scene
		e    api.Errno
	}{
		{"a size below 0", with(-1, make([]int, 11), many), api.ErrRange},
		{"a size too great", with(api.MaxScene+1, make([]int, 11), many), api.ErrRange},
		{"the least size there is", with(math.MinInt, nil), api.ErrRange},
		{"the greatest size there is", with(math.MaxInt, nil), api.ErrRange},
		{"the size of a word", with(64, []int{0}), api.ErrRange},
		{"a noun too many", with(2, slices.Repeat([]int{-1}, 11), noPlaces), api.ErrMany},
		{"a verb too many", with(2, []int{-1}, make([]api.Verb, 11)...), api.ErrMany},
		{"a list too many", with(2, []int{-1}, noPlaces, many), api.ErrMany},
		{"a noun below 0", with(2, []int{3, -1}), api.ErrRange},
		{"a noun below 0 ahead of a short list", with(2, []int{-1}, short), api.ErrRange},
		{"a noun that nobody can be", with(2, []int{3, 4}, short), api.ErrRange},
		{"a noun where nobody is", with(0, []int{0, 1}, short), api.ErrRange},
		{"the least noun there is", with(5, []int{math.MinInt}, short), api.ErrRange},
		{"the greatest noun there is", with(5, []int{math.MaxInt}, short), api.ErrRange},
		{"no places", with(2, []int{3}, noPlaces, short), api.ErrRange},
		{"a place too many", with(2, nil, api.Verb{Places: 4, Of: [][]int{{0}}}, short), api.ErrRange},
		{"the least places there are", with(2, nil, api.Verb{Places: math.MinInt}), api.ErrRange},
		{"the most places there are", with(2, nil, api.Verb{Places: math.MaxInt}, short), api.ErrRange},
		{"a short list", with(2, nil, short, noPlaces), api.ErrForm},
		{"a long list", with(2, nil, api.Verb{Places: 2, Of: [][]int{{0, 1}, {0, 0, 0}, {0, 9}}}), api.ErrForm},
		{"an empty list", with(2, nil, api.Verb{Places: 1, Of: [][]int{{}}}), api.ErrForm},
		{"somebody who is not there", with(2, nil, nobody, short), api.ErrRange},
		{"somebody who is not there, ahead of a short list", with(2, nil, api.Verb{Places: 2, Of: [][]int{{0, 2}, {0}}}), api.ErrRange},
		{"a short list ahead of somebody who is not there", with(2, nil, api.Verb{Places: 2, Of: [][]int{{0}, {0, 2}}}), api.ErrForm},
		{"somebody below 0", with(2, nil, api.Verb{Places: 3, Of: [][]int{{0, 1, -1}}}), api.ErrRange},
		{"the least individual there is", with(2, nil, api.Verb{Places: 1, Of: [][]int{{math.MinInt}}}), api.ErrRange},
		{"the greatest individual there is", with(2, nil, api.Verb{Places: 1, Of: [][]int{{math.MaxInt}}}), api.ErrRange},
		{"somebody where nobody is", with(0, nil, api.Verb{Places: 1, Of: [][]int{{0}}}), api.ErrRange},
		{"a first verb that is wrong", with(2, nil, short, nobody), api.ErrForm},
	}
}

// endless is a reason without end.
func endless() api.Reason {
	r := api.Reason{Who: -1, Kids: make([]api.Reason, 1)}
	r.Kids[0] = r
	return r
}

// L1
func TestCheck(t *testing.T) {
	for _, w := range wrongScenes() {
		if e := Check(w.s); e != w.e {
			t.Errorf("%s: %d, not %d", w.name, e, w.e)
		}
	}
	empty := api.Scene{Nouns: []int{0}, Verbs: []api.Verb{{Places: 1}, {Places: 3}}}
	twice := api.Scene{Size: 1, Verbs: []api.Verb{{Places: 1, Of: [][]int{{0}, {0}}}}}
	for _, s := range []api.Scene{{}, mirror(), crowd(), empty, twice} {
		if e := Check(s); e != api.OK {
			t.Errorf("%v: %d", s, e)
		}
	}
}

// all asks of all calls, and tells whether with an error nothing else is told.
func all(t *testing.T, name string, s api.Scene, said api.Saying, order []int, e, ofReadings api.Errno) {
	t.Helper()
	holds, f := Holds(s, said, order)
	l, g := Readings(s, said)
	so, why, h := Why(s, said, order)
	good, i := Good(s, said, order, true, endless())
	bad, j := Good(s, said, order, false, endless())
	if f != e || g != ofReadings || h != e || i != e || j != e {
		t.Errorf("%s: %d %d %d %d %d, not %d and %d", name, f, g, h, i, j, e, ofReadings)
	}
	if holds || so || why.Who != 0 || why.Kids != nil || good || bad || g != api.OK && l != nil {
		t.Errorf("%s: %v %v %v %v %v %v", name, holds, l, so, why, good, bad)
	}
}

// L1; P1: what is wrong with the scene is told first.
func TestScenesAreCheckedFirst(t *testing.T) {
	for _, w := range wrongScenes() {
		all(t, w.name, w.s, api.Saying{Verb: -1}, nil, w.e, w.e)
	}
}

// L1; P1
func TestSayings(t *testing.T) {
	s := api.Scene{Size: 2, Nouns: []int{3, 0}, Verbs: []api.Verb{{Places: 1}, {Places: 2}}}
	p, bad, none := api.Phrase{Quant: api.QuantNo, Noun: 1}, api.Phrase{Quant: 0, Noun: 1}, api.Phrase{Quant: 1, Noun: 2}
	for _, c := range []struct {
		name    string
		verb    int
		phrases []api.Phrase
		e       api.Errno
	}{
		{"a verb below 0", -1, []api.Phrase{bad}, api.ErrNone},
		{"a verb that is none", 2, []api.Phrase{bad}, api.ErrNone},
		{"the least verb there is", math.MinInt, nil, api.ErrNone},
		{"the greatest verb there is", math.MaxInt, nil, api.ErrNone},
		{"no phrases", 0, nil, api.ErrForm},
		{"a phrase too few", 1, []api.Phrase{bad}, api.ErrForm},
		{"a phrase too many", 1, []api.Phrase{bad, p, none}, api.ErrForm},
		{"a quantifier of 0", 1, []api.Phrase{none, bad}, api.ErrKind},
		{"a quantifier above", 1, []api.Phrase{none, {Quant: api.QuantNo + 1}}, api.ErrKind},
		{"the least quantifier there is", 0, []api.Phrase{{Quant: math.MinInt}}, api.ErrKind},
		{"the greatest quantifier there is", 0, []api.Phrase{{Quant: math.MaxInt}}, api.ErrKind},
		{"a noun that is none", 1, []api.Phrase{p, none}, api.ErrNone},
		{"a noun below 0", 1, []api.Phrase{{Quant: 1, Noun: -1}, p}, api.ErrNone},
		{"the least noun there is", 0, []api.Phrase{{Quant: 1, Noun: math.MinInt}}, api.ErrNone},
		{"the greatest noun there is", 0, []api.Phrase{{Quant: 1, Noun: math.MaxInt}}, api.ErrNone},
	} {
		all(t, c.name, s, api.Saying{Verb: c.verb, Phrases: c.phrases}, nil, c.e, c.e)
	}
}

// L1; P1
func TestOrders(t *testing.T) {
	s := api.Scene{Size: 2, Nouns: []int{3}, Verbs: []api.Verb{{Places: 1}, {Places: 2}, {Places: 3}}}
	for _, c := range []struct {
		places int
		order  []int
	}{
		{1, nil}, {1, []int{1}}, {1, []int{-1}}, {1, []int{0, 0}}, {1, []int{0, 1}},
		{2, nil}, {2, []int{0}}, {2, []int{0, 0}}, {2, []int{1, 1}}, {2, []int{1, 2}}, {2, []int{0, -1}}, {2, []int{0, 1, 0}}, {2, []int{0, 1, 2}},
		{3, []int{0, 1}}, {3, []int{0, 1, 1}}, {3, []int{2, 1, 2}}, {3, []int{1, 2, 3}}, {3, []int{0, 1, math.MaxInt}}, {3, []int{math.MinInt, 1, 2}}, {3, []int{0, 1, 2, 0}},
		{3, make([]int, 1<<16)},
	} {
		said := api.Saying{Verb: c.places - 1, Phrases: slices.Repeat([]api.Phrase{{Quant: 1}}, c.places)}
		all(t, "an order", s, said, c.order, api.ErrForm, api.OK)
	}
}

// L3: more reasons than may be are told of behind all else.
func TestGoodOfTooMany(t *testing.T) {
	s := crowd()
	every := api.Saying{Phrases: slices.Repeat([]api.Phrase{{Quant: api.QuantEvery}}, 3)}
	order := []int{2, 0, 1}
	deep := api.Reason{}
	for range 1<<16 - 1 {
		deep = api.Reason{Kids: []api.Reason{deep}}
	}
	wide := func(n int) api.Reason { return api.Reason{Who: -1, Kids: make([]api.Reason, n-1)} }
	within := api.Reason{Who: -1, Kids: []api.Reason{{Kids: []api.Reason{{}, wide(api.MaxReason - 2)}}}}
	for _, c := range []struct {
		why api.Reason
		e   api.Errno
	}{
		{wide(api.MaxReason), api.OK},
		{wide(api.MaxReason + 1), api.ErrMany},
		{wide(1 << 20), api.ErrMany},
		{within, api.ErrMany},
		{deep, api.ErrMany},
		{endless(), api.ErrMany},
	} {
		for _, so := range []bool{false, true} {
			if good, e := Good(s, every, order, so, c.why); good || e != c.e {
				t.Errorf("%v %d, not %d", good, e, c.e)
			}
		}
		if good, e := Good(s, every, []int{0, 1}, true, c.why); good || e != api.ErrForm {
			t.Errorf("of no order: %v %d", good, e)
		}
	}
}
