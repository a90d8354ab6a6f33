package chance

import (
	"math"
	"slices"
	"strings"
	"testing"

	"wordhoard/api"
)

type wrongOne struct {
	name string
	c    api.Chances
	e    api.Errno
}

// wrong chance grammars: each has what stands below it wrong too, where it can.
func wrong() []wrongOne {
	with := func(kinds int, weights []int, rules ...api.Rule) api.Chances {
		return api.Chances{Grammar: api.Grammar{Kinds: kinds, Rules: rules}, Weights: weights}
	}
	self, word := api.Rule{Body: []int{0}}, api.Rule{Body: []int{-1}}
	back := []api.Rule{{Body: []int{1}}, {Head: 1, Body: []int{2}}, {Head: 2, Body: []int{1}}}
	return []wrongOne{
		{"nothing", api.Chances{}, api.ErrMany},
		{"too many kinds", with(api.MaxKinds+1, nil, self), api.ErrMany},
		{"too many rules", with(1, nil, slices.Repeat([]api.Rule{word}, api.MaxRules+1)...), api.ErrMany},
		{"an empty body", with(1, nil, self, api.Rule{}), api.ErrForm},
		{"a long body", with(1, nil, self, api.Rule{Body: make([]int, api.MaxBody+1)}), api.ErrLong},
		{"a part that is none", with(1, nil, self, api.Rule{Body: []int{1}}), api.ErrRange},
		{"a head that is none", with(1, nil, self, api.Rule{Head: -1, Body: []int{0}}), api.ErrRange},
		{"back to itself", with(1, nil, self, word), api.ErrForm},
		{"back by way of others", with(3, []int{0, 0, 0}, back...), api.ErrForm},
		{"back where no tree comes", with(5, []int{1, 1}, word, api.Rule{Head: 4, Body: []int{4}}), api.ErrForm},
		{"no weights", with(1, nil, word), api.ErrMany},
		{"a weight too few", with(1, []int{0}, word, word), api.ErrMany},
		{"a weight too many", with(1, []int{0, 1}, word), api.ErrMany},
		{"weights of no rules", with(1, []int{1}), api.ErrMany},
		{"a weight of nought", with(1, []int{1, 0}, word, word), api.ErrRange},
		{"a weight below", with(1, []int{-1}, word), api.ErrRange},
		{"a weight above", with(1, []int{api.MaxWeight + 1}, word), api.ErrRange},
		{"the least weight there is", with(1, []int{math.MinInt}, word), api.ErrRange},
		{"the greatest weight there is", with(1, []int{math.MaxInt}, word), api.ErrRange},
	}
}

// G1; P1: with an error nothing else is told.
func TestCheck(t *testing.T) {
	bad := make([]int, api.MaxSpoken+1)
	for _, w := range wrong() {
		if e := Check(w.c); e != w.e {
			t.Errorf("%s: %d, not %d", w.name, e, w.e)
		}
		p, e := Of(w.c, bad)
		tree, most, ok, f := Best(w.c, bad)
		used, g := Used(w.c, bad)
		better, h := Better(w.c, nil)
		under, i := Under(w.c, []string{""}, bad)
		if e != w.e || f != w.e || g != w.e || h != w.e || i != w.e {
			t.Errorf("%s: %d %d %d %d %d, not %d", w.name, e, f, g, h, i, w.e)
		}
		if p != "" || most != "" || ok || tree.Kids != nil || used != nil || better != nil || under != "" {
			t.Errorf("%s: %q %q %v %v %v %q", w.name, p, most, ok, used, better, under)
		}
	}
	down := api.Chances{Grammar: api.Grammar{Kinds: 3, Rules: []api.Rule{{Body: []int{1}}, {Body: []int{2}}, {Head: 1, Body: []int{2}}, {Head: 2, Body: []int{0, 0}}, {Head: 2, Body: []int{-1}}}}, Weights: []int{1, api.MaxWeight, 1, 1, 1}}
	for _, c := range []api.Chances{coins(), words(), great(), down, {Grammar: api.Grammar{Kinds: 1}}} {
		if e := Check(c); e != api.OK {
			t.Errorf("%v: %d", c, e)
		}
	}
}

// G1
func TestTextErrors(t *testing.T) {
	for _, x := range []struct {
		text []int
		e    api.Errno
	}{
		{nil, api.ErrLong},
		{[]int{}, api.ErrLong},
		{slices.Repeat([]int{1}, api.MaxSpoken), api.OK},
		{slices.Repeat([]int{1}, api.MaxSpoken+1), api.ErrLong},
		{make([]int, api.MaxSpoken+1), api.ErrLong},
		{make([]int, 1<<16), api.ErrLong},
		{[]int{1, 0}, api.ErrRange},
		{[]int{-1}, api.ErrRange},
		{[]int{api.MaxWord + 1}, api.ErrRange},
		{[]int{math.MinInt}, api.ErrRange},
		{[]int{math.MaxInt}, api.ErrRange},
	} {
		_, e := Of(coins(), x.text)
		_, _, _, f := Best(coins(), x.text)
		_, g := Used(coins(), x.text)
		_, h := Better(coins(), [][]int{x.text})
		_, i := Under(coins(), []string{"1/2", "1/2"}, x.text)
		if e != x.e || f != x.e || g != x.e || h != x.e || i != x.e {
			t.Errorf("%v: %d %d %d %d %d, not %d", x.text, e, f, g, h, i, x.e)
		}
		if _, i := Under(coins(), nil, x.text); x.e != api.OK && i != x.e {
			t.Errorf("%v: %d, not %d", x.text, i, x.e)
		}
	}
	none := []int{api.MaxWord}
	p, e := Of(coins(), none)
	tree, most, ok, f := Best(coins(), none)
	used, g := Used(coins(), none)
	if p != "0/1" || e != api.OK || most != "" || ok || tree.Kids != nil || f != api.OK || used != nil || g != api.ErrNone {
		t.Errorf("%s %d; %v %q %v %d; %v %d", p, e, tree, most, ok, f, used, g)
	}
}

// G3: how many texts; then text by text what is wrong.
func TestBetterErrors(t *testing.T) {
	right, long, bad, none := []int{1}, make([]int, api.MaxSpoken+1), []int{0}, []int{2}
	for _, x := range []struct {
		name  string
		texts [][]int
		e     api.Errno
	}{
		{"no texts", nil, api.ErrMany},
		{"a text too many", slices.Repeat([][]int{bad}, api.MaxCorpus+1), api.ErrMany},
		{"as many as may be", slices.Repeat([][]int{right}, api.MaxCorpus), api.OK},
		{"one", [][]int{right}, api.OK},
		{"a long one first", [][]int{long, bad, none}, api.ErrLong},
		{"a bad one first", [][]int{bad, long, none}, api.ErrRange},
		{"one without a tree first", [][]int{none, long, bad}, api.ErrNone},
		{"then a bad one", [][]int{right, bad, none}, api.ErrRange},
		{"then one without a tree", [][]int{right, right, none, bad}, api.ErrNone},
		{"then an empty one", [][]int{right, {}}, api.ErrLong},
	} {
		if p, e := Better(coins(), x.texts); e != x.e || (p != nil) != (e == api.OK) {
			t.Errorf("%s: %v %d, not %d", x.name, p, e, x.e)
		}
	}
}

// G4
func TestUnderErrors(t *testing.T) {
	nines := strings.Repeat("9", 5000)
	for _, x := range []struct {
		name string
		p    []string
		e    api.Errno
	}{
		{"none", nil, api.ErrMany},
		{"one too few", []string{""}, api.ErrMany},
		{"one too many", []string{"", "", ""}, api.ErrMany},
		{"an empty one", []string{"1/1", ""}, api.ErrForm},
		{"below 0", []string{"-1/2", "3/2"}, api.ErrForm},
		{"a nought below", []string{"-0/1", "1/1"}, api.ErrForm},
		{"over nought", []string{"1/0", "1/1"}, api.ErrForm},
		{"nought over nought", []string{"0/0", "1/1"}, api.ErrForm},
		{"over less than nought", []string{"1/-2", "1/2"}, api.ErrForm},
		{"a common factor", []string{"2/4", "1/2"}, api.ErrForm},
		{"a great common factor", []string{nines + "/1" + strings.Repeat("0", 5000), nines + "/" + nines}, api.ErrForm},
		{"nought over two", []string{"0/2", "1/1"}, api.ErrForm},
		{"a nought ahead", []string{"1/2", "01/2"}, api.ErrForm},
		{"a nought ahead below", []string{"1/2", "1/02"}, api.ErrForm},
		{"a whole number", []string{"0/1", "1"}, api.ErrForm},
		{"nothing below", []string{"0/1", "1/"}, api.ErrForm},
		{"nothing above", []string{"0/1", "/1"}, api.ErrForm},
		{"two strokes", []string{"1/2/1", "1/2"}, api.ErrForm},
		{"a sign", []string{"+1/2", "1/2"}, api.ErrForm},
		{"a blank", []string{" 1/2", "1/2"}, api.ErrForm},
		{"a point", []string{"0.5", "1/2"}, api.ErrForm},
		{"other digits", []string{"\u0661/2", "1/2"}, api.ErrForm},
		{"stray bytes", []string{"\xff", "1/2"}, api.ErrForm},
		{"not 1, and of no form", []string{"1/3", "x"}, api.ErrForm},
		{"below 1", []string{"1/2", "1/3"}, api.ErrRange},
		{"above 1", []string{"1/1", "1/3"}, api.ErrRange},
		{"nothing at all", []string{"0/1", "0/1"}, api.ErrRange},
		{"nearly 1", []string{nines + "/1" + strings.Repeat("0", 5000), "0/1"}, api.ErrRange},
		{"just 1", []string{nines + "/1" + strings.Repeat("0", 5000), "1/1" + strings.Repeat("0", 5000)}, api.OK},
	} {
		got, e := Under(coins(), x.p, []int{1, 1})
		if e != x.e || (got != "") != (e == api.OK) {
			t.Errorf("%s: %s %d, not %d", x.name, got, e, x.e)
		}
	}
}

// G4: what is asked of each head alone.
func TestUnderAsksEachHead(t *testing.T) {
	for _, x := range []struct {
		p []string
		e api.Errno
	}{
		{[]string{"1/3", "1/3", "1/3", "1/2", "1/2"}, api.OK},
		{[]string{"1/2", "1/2", "1/2", "1/4", "1/4"}, api.ErrRange},
		{[]string{"1/3", "1/3", "1/3", "1/2", "1/3"}, api.ErrRange},
		{[]string{"1/3", "1/3", "0/1", "2/3", "1/3"}, api.ErrRange},
	} {
		if _, e := Under(words(), x.p, []int{1}); e != x.e {
			t.Errorf("%v: %d, not %d", x.p, e, x.e)
		}
	}
}
