package grammar

import (
	"math"
	"slices"
	"testing"

	"wordhoard/api"
)

// fill has a body of so many parts.
func fill(n, part int) []int { return slices.Repeat([]int{part}, n) }

// wrong grammars, and what is wrong with them: each has what stands below it wrong too, where it can.
func wrong() []struct {
	name string
	g    api.Grammar
	e    api.Errno
} {
	empty, long := api.Rule{}, api.Rule{Body: fill(api.MaxBody+1, -1)}
	noHead, noPart := api.Rule{Head: 9, Body: []int{0}}, api.Rule{Body: []int{9}}
	return []struct {
		name string
		g    api.Grammar
		e    api.Errno
	}{
		{"no kinds", api.Grammar{Rules: []api.Rule{noPart, long, empty}}, api.ErrMany},
		{"kinds below 0", api.Grammar{Kinds: -1}, api.ErrMany},
		{"the least kinds there are", api.Grammar{Kinds: math.MinInt}, api.ErrMany},
		{"the most kinds there are", api.Grammar{Kinds: math.MaxInt}, api.ErrMany},
		{"a kind too many", api.Grammar{Kinds: api.MaxKinds + 1, Rules: []api.Rule{noPart, long, empty}}, api.ErrMany},
		{"a rule too many", api.Grammar{Kinds: 1, Rules: slices.Repeat([]api.Rule{empty}, api.MaxRules+1)}, api.ErrMany},
		{"right rules, one too many", api.Grammar{Kinds: 1, Rules: slices.Repeat([]api.Rule{{Body: []int{-1}}}, api.MaxRules+1)}, api.ErrMany},
		{"an empty body", api.Grammar{Kinds: 1, Rules: []api.Rule{noHead, noPart, long, empty}}, api.ErrForm},
		{"a long body", api.Grammar{Kinds: 1, Rules: []api.Rule{noHead, noPart, long}}, api.ErrLong},
		{"a long body of nothing right", api.Grammar{Kinds: 1, Rules: []api.Rule{{Body: fill(api.MaxBody+1, 9)}}}, api.ErrLong},
		{"a head that is none", api.Grammar{Kinds: 9, Rules: []api.Rule{noHead}}, api.ErrRange},
		{"a head below 0", api.Grammar{Kinds: 9, Rules: []api.Rule{{Head: -1, Body: []int{0}}}}, api.ErrRange},
		{"the least head there is", api.Grammar{Kinds: 9, Rules: []api.Rule{{Head: math.MinInt, Body: []int{0}}}}, api.ErrRange},
		{"the greatest head there is", api.Grammar{Kinds: 9, Rules: []api.Rule{{Head: math.MaxInt, Body: []int{0}}}}, api.ErrRange},
		{"a part that is none", api.Grammar{Kinds: 9, Rules: []api.Rule{noPart}}, api.ErrRange},
		{"a last part that is none", api.Grammar{Kinds: 9, Rules: []api.Rule{{Body: []int{8, -1, 0, -api.MaxWord, 1, 9}}}}, api.ErrRange},
		{"a word that is none", api.Grammar{Kinds: 9, Rules: []api.Rule{{Body: []int{-api.MaxWord - 1}}}}, api.ErrRange},
		{"the least part there is", api.Grammar{Kinds: 9, Rules: []api.Rule{{Body: []int{math.MinInt}}}}, api.ErrRange},
		{"the greatest part there is", api.Grammar{Kinds: 9, Rules: []api.Rule{{Body: []int{math.MaxInt}}}}, api.ErrRange},
	}
}

// F1
func TestCheck(t *testing.T) {
	for _, w := range wrong() {
		if e := Check(w.g); e != w.e {
			t.Errorf("%s: %d, not %d", w.name, e, w.e)
		}
	}
	most := api.Grammar{Kinds: api.MaxKinds, Rules: slices.Repeat([]api.Rule{{Head: api.MaxKinds - 1, Body: fill(api.MaxBody, -api.MaxWord)}}, api.MaxRules)}
	for _, g := range []api.Grammar{{Kinds: 1}, sums(), round(), most} {
		if e := Check(g); e != api.OK {
			t.Errorf("%v: %d", g, e)
		}
	}
}

// F1: what Check tells is told ahead of all else; P1: and nothing else is told.
func TestAllTellFirstWhatCheckTells(t *testing.T) {
	bad := []int{0}
	endless := api.Tree{Kids: make([]api.Tree, 1)}
	endless.Kids[0].Kids = endless.Kids
	for _, w := range wrong() {
		if has, e := Has(w.g, bad); has || e != w.e {
			t.Errorf("Has, %s: %v %d", w.name, has, e)
		}
		if n, e := Normal(w.g); n.Kinds != 0 || n.Rules != nil || e != w.e {
			t.Errorf("Normal, %s: %v %d", w.name, n, e)
		}
		if n, on, e := Count(w.g, bad); n != "" || on || e != w.e {
			t.Errorf("Count, %s: %q %v %d", w.name, n, on, e)
		}
		if tree, ok, e := Parse(w.g, bad); tree.Rule != 0 || tree.Kids != nil || ok || e != w.e {
			t.Errorf("Parse, %s: %v %v %d", w.name, tree, ok, e)
		}
		for _, tree := range []api.Tree{{}, {Rule: -1}, endless} {
			if text, e := Yield(w.g, tree); text != nil || e != w.e {
				t.Errorf("Yield, %s: %v %d", w.name, text, e)
			}
		}
		for _, long := range []int{-1, 0, 3, api.MaxTwins + 1} {
			if text, ok, e := Twins(w.g, long); text != nil || ok || e != w.e {
				t.Errorf("Twins, %s: %v %v %d", w.name, text, ok, e)
			}
		}
	}
}

// F1
func TestTextErrors(t *testing.T) {
	normal := api.Grammar{Kinds: 1, Rules: []api.Rule{{Body: []int{-1}}, {Body: []int{0, 0}}}}
	for _, c := range []struct {
		text []int
		e    api.Errno
	}{
		{nil, api.OK},
		{fill(api.MaxText, 1), api.OK},
		{fill(api.MaxText, api.MaxWord), api.OK},
		{fill(api.MaxText+1, 1), api.ErrLong},
		{fill(api.MaxText+1, 0), api.ErrLong},
		{fill(1<<16, -1), api.ErrLong},
		{[]int{0}, api.ErrRange},
		{[]int{-1}, api.ErrRange},
		{[]int{1, 1, api.MaxWord + 1}, api.ErrRange},
		{[]int{math.MinInt}, api.ErrRange},
		{[]int{math.MaxInt}, api.ErrRange},
	} {
		has, e := Has(normal, c.text)
		fine, f := Squares(normal, c.text)
		n, on, h := Count(normal, c.text)
		tree, ok, i := Parse(normal, c.text)
		if e != c.e || f != c.e || h != c.e || i != c.e {
			t.Errorf("%v: %d %d %d %d, not %d", c.text, e, f, h, i, c.e)
		}
		if c.e != api.OK && (has || fine || n != "" || on || ok || tree.Rule != 0 || tree.Kids != nil) {
			t.Errorf("%v: %v %v %q %v %v %v", c.text, has, fine, n, on, ok, tree)
		}
	}
}

// F3: the errors of Squares, which has other limits; ErrKind stands behind those of the grammar, ahead of those of the text.
func TestSquaresErrors(t *testing.T) {
	bad := fill(api.MaxText+1, 0)
	word, pair := api.Rule{Head: api.MaxFine - 1, Body: []int{-api.MaxWord}}, api.Rule{Body: []int{api.MaxFine - 1, 0}}
	for _, c := range []struct {
		name string
		g    api.Grammar
		e    api.Errno
	}{
		{"no kinds", api.Grammar{}, api.ErrMany},
		{"a kind too many", api.Grammar{Kinds: api.MaxFine + 1, Rules: []api.Rule{{}}}, api.ErrMany},
		{"the least kinds there are", api.Grammar{Kinds: math.MinInt}, api.ErrMany},
		{"a rule too many", api.Grammar{Kinds: 1, Rules: make([]api.Rule, api.MaxFineRules+1)}, api.ErrMany},
		{"empty bodies, not too many", api.Grammar{Kinds: 1, Rules: make([]api.Rule, api.MaxFineRules)}, api.ErrForm},
		{"an empty body", api.Grammar{Kinds: 1, Rules: []api.Rule{{Body: []int{5}}, {Body: fill(7, 0)}, {}}}, api.ErrForm},
		{"a long body", api.Grammar{Kinds: 1, Rules: []api.Rule{{Body: []int{5}}, {Body: fill(7, 0)}}}, api.ErrLong},
		{"a part that is none", api.Grammar{Kinds: api.MaxFine, Rules: []api.Rule{{Body: []int{0}}, {Body: []int{api.MaxFine, 0}}}}, api.ErrRange},
		{"a head that is none", api.Grammar{Kinds: api.MaxFine, Rules: []api.Rule{{Body: []int{0}}, {Head: api.MaxFine, Body: []int{0, 0}}}}, api.ErrRange},
		{"one kind", api.Grammar{Kinds: 1, Rules: []api.Rule{{Body: []int{-1}}, {Body: []int{0}}}}, api.ErrKind},
		{"two words", api.Grammar{Kinds: 1, Rules: []api.Rule{{Body: []int{-1, -1}}}}, api.ErrKind},
		{"a word and a kind", api.Grammar{Kinds: 1, Rules: []api.Rule{{Body: []int{-1, 0}}}}, api.ErrKind},
		{"a kind and a word", api.Grammar{Kinds: 1, Rules: []api.Rule{{Body: []int{0, -1}}}}, api.ErrKind},
		{"three kinds", api.Grammar{Kinds: 1, Rules: []api.Rule{{Body: []int{0, 0, 0}}}}, api.ErrKind},
		{"a right one", api.Grammar{Kinds: api.MaxFine, Rules: []api.Rule{word, pair}}, api.ErrLong},
	} {
		if has, e := Squares(c.g, bad); has || e != c.e {
			t.Errorf("%s: %v %d, not %d", c.name, has, e, c.e)
		}
	}
}
