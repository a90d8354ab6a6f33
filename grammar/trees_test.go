package grammar

import (
	"math/big"
	"slices"
	"testing"

	"wordhoard/api"
)

// F4
func TestCount(t *testing.T) {
	d := draw(5)
	texts := textsUpTo(4, 1, 2)
	endless, several := 0, 0
	for range 150 {
		g := d.grammar(3, 8, 3, 2)
		for _, text := range texts {
			n, on, e := Count(g, text)
			want, wantOn := slowCount(g, text)
			switch {
			case e != api.OK || on != wantOn:
				t.Fatalf("%v of %v: %q %v %d, not %v", text, g, n, on, e, wantOn)
			case on:
				endless++
				if n != "" {
					t.Fatalf("%v of %v: %q, without end", text, g, n)
				}
			case n != want.String():
				t.Fatalf("%v of %v: %s, not %v", text, g, n, want)
			case len(n) > 1 || n > "1":
				several++
			}
		}
	}
	if endless < 100 || several < 100 {
		t.Errorf("only %d without end, and %d with several trees", endless, several)
	}
}

// F4: a kind that leads back to itself does no harm where no tree of the whole text comes by.
func TestCountWhereItDoesNotGoRound(t *testing.T) {
	for _, c := range []struct {
		rules []api.Rule
		text  []int
		want  string
		on    bool
	}{
		{[]api.Rule{{Body: []int{0}}, {Body: []int{-1}}}, []int{1}, "", true},
		{[]api.Rule{{Body: []int{0}}, {Body: []int{-1}}}, []int{2}, "0", false},
		{[]api.Rule{{Body: []int{-1}}, {Head: 1, Body: []int{1}}, {Head: 1, Body: []int{-1}}}, []int{1}, "1", false},
		{[]api.Rule{{Body: []int{-1, -2}}, {Body: []int{1, -3}}, {Head: 1, Body: []int{1}}, {Head: 1, Body: []int{-1}}}, []int{1, 2}, "1", false},
		{[]api.Rule{{Body: []int{-1, -2}}, {Body: []int{1, -3}}, {Head: 1, Body: []int{1}}, {Head: 1, Body: []int{-1}}}, []int{1, 3}, "", true},
		{[]api.Rule{{Body: []int{1}}, {Head: 1, Body: []int{2}}, {Head: 2, Body: []int{1}}, {Head: 2, Body: []int{-1}}}, []int{1}, "", true},
		{[]api.Rule{{Body: []int{-1}}, {Body: []int{-1}}, {Body: []int{1}}, {Head: 1, Body: []int{1}}}, []int{1}, "2", false},
		{[]api.Rule{{Body: []int{-1}}, {Body: []int{1}}, {Body: []int{2}}, {Head: 1, Body: []int{-1}}, {Head: 2, Body: []int{1}}}, []int{1}, "3", false},
	} {
		if n, on, e := Count(api.Grammar{Kinds: 3, Rules: c.rules}, c.text); n != c.want || on != c.on || e != api.OK {
			t.Errorf("%v of %v: %q %v %d", c.text, c.rules, n, on, e)
		}
	}
}

// F4: as many trees as there are, and they are many; and Parse keeps to MaxNodes rules all the same.
func TestCountOfTheMost(t *testing.T) {
	text := fill(api.MaxText, 1)
	for _, steps := range []int{1, 3} {
		forks := api.MaxRules - 1 - 9*steps
		g := ladder(steps, forks)
		want := new(big.Int).Binomial(30, 15)
		want.Div(want, big.NewInt(16)) // CATALAN: how often the words can be bracketed
		want.Mul(want, new(big.Int).Exp(big.NewInt(int64(forks)), big.NewInt(15), nil))
		want.Mul(want, new(big.Int).Exp(big.NewInt(int64(steps)), big.NewInt(31*9), nil))
		if n, on, e := Count(g, text); n != want.String() || on || e != api.OK {
			t.Errorf("%d steps: %s %v %d, not %v", steps, n, on, e, want)
		}
		tree, ok, _ := Parse(g, text)
		if !ok || nodes(tree) != 310 {
			t.Errorf("%d steps: %v, %d rules", steps, ok, nodes(tree))
		}
		checkParsed(t, g, tree, text)
	}
}

// F4: where each kind leads to each, no tree goes round and round.
func TestParseDoesNotGoRound(t *testing.T) {
	g := api.Grammar{Kinds: 6}
	for from := range g.Kinds {
		for to := range g.Kinds {
			g.Rules = append(g.Rules, api.Rule{Head: from, Body: []int{to}})
		}
	}
	g.Rules = append(g.Rules, api.Rule{Head: 5, Body: []int{-1}}, api.Rule{Head: 4, Body: []int{3, 3}})
	for n := 1; n <= api.MaxText; n++ {
		text := fill(n, 1)
		tree, ok, e := Parse(g, text)
		if !ok || e != api.OK {
			t.Fatalf("%d words: %v %d", n, ok, e)
		}
		checkParsed(t, g, tree, text)
		if many, on, _ := Count(g, text); many != "" || !on {
			t.Errorf("%d words: %q %v", n, many, on)
		}
	}
}

// F4
func TestYield(t *testing.T) {
	g := api.Grammar{Kinds: 3, Rules: []api.Rule{{Body: []int{-3, 1, -4, 2, -5}}, {Head: 1, Body: []int{-1}}, {Head: 2, Body: []int{-2, -2}}, {Head: 2, Body: []int{1}}}}
	one, two := api.Tree{Rule: 1}, api.Tree{Rule: 2}
	none, low := api.Tree{Rule: 4}, api.Tree{Rule: -1}
	full := api.Tree{Rule: 1, Kids: []api.Tree{one}}
	tree := func(kids ...api.Tree) api.Tree { return api.Tree{Kids: kids} }
	for _, c := range []struct {
		name string
		tree api.Tree
		text []int
		e    api.Errno
	}{
		{"a tree", tree(one, two), []int{3, 1, 4, 2, 2, 5}, api.OK},
		{"a deeper one", tree(one, api.Tree{Rule: 3, Kids: []api.Tree{one}}), []int{3, 1, 4, 1, 5}, api.OK},
		{"of another kind than 0", two, []int{2, 2}, api.OK},
		{"a rule behind the last", none, nil, api.ErrNone},
		{"a rule below 0", low, nil, api.ErrNone},
		{"the least rule there is", api.Tree{Rule: -1 << 63}, nil, api.ErrNone},
		{"the greatest rule there is", api.Tree{Rule: 1<<63 - 1}, nil, api.ErrNone},
		{"no rule, whatever stands below", api.Tree{Rule: 4, Kids: []api.Tree{full}}, nil, api.ErrNone},
		{"no tree below", tree(), nil, api.ErrForm},
		{"a tree too few", tree(one), nil, api.ErrForm},
		{"a tree too many", tree(one, two, two), nil, api.ErrForm},
		{"a tree below a word", full, nil, api.ErrForm},
		{"as many come ahead of what is wrong within", tree(none), nil, api.ErrForm},
		{"the first of another kind", tree(two, two), nil, api.ErrForm},
		{"the second of another kind", tree(one, one), nil, api.ErrForm},
		{"none in the first", tree(none, two), nil, api.ErrNone},
		{"none in the second", tree(one, low), nil, api.ErrNone},
		{"the first of another kind, ahead of none in the second", tree(two, none), nil, api.ErrForm},
		{"none in the first, ahead of the second of another kind", tree(low, one), nil, api.ErrNone},
		{"within the first, ahead of its head", tree(api.Tree{Rule: 3, Kids: []api.Tree{none}}, two), nil, api.ErrNone},
		{"within the first, ahead of none in the second", tree(full, none), nil, api.ErrForm},
	} {
		if text, e := Yield(g, c.tree); e != c.e || !slices.Equal(text, c.text) || e != api.OK && text != nil {
			t.Errorf("%s: %v %d", c.name, text, e)
		}
	}
}

// F4: more rules than MaxNodes, or deeper, ahead of what else is wrong.
func TestYieldOfTooMany(t *testing.T) {
	g := api.Grammar{Kinds: 1, Rules: []api.Rule{{Body: []int{0}}, {Body: []int{-1}}, {Body: []int{0, 0}}}}
	chain := func(n, last int) api.Tree {
		t := api.Tree{Rule: last}
		for range n - 1 {
			t = api.Tree{Kids: []api.Tree{t}}
		}
		return t
	}
	endless := api.Tree{Kids: make([]api.Tree, 1)}
	endless.Kids[0].Kids = endless.Kids
	doubled := api.Tree{Rule: 1}
	for range 60 {
		doubled = api.Tree{Rule: 2, Kids: []api.Tree{doubled, doubled}}
	}
	comb := api.Tree{Rule: 1} // 399 rules
	for range 199 {
		comb = api.Tree{Rule: 2, Kids: []api.Tree{{Rule: 1}, comb}}
	}
	for _, c := range []struct {
		name  string
		tree  api.Tree
		words int
		e     api.Errno
	}{
		{"as deep as may be", chain(api.MaxNodes, 1), 1, api.OK},
		{"one deeper", chain(api.MaxNodes+1, 1), 0, api.ErrMany},
		{"one deeper, with none", chain(api.MaxNodes+1, 7), 0, api.ErrMany},
		{"as deep as may be, with none", chain(api.MaxNodes, 7), 0, api.ErrNone},
		{"as deep as anything", chain(1<<16, 1), 0, api.ErrMany},
		{"without end", endless, 0, api.ErrMany},
		{"twice and twice again", doubled, 0, api.ErrMany},
		{"as many as may be", api.Tree{Kids: []api.Tree{comb}}, 200, api.OK},
		{"one more", api.Tree{Kids: []api.Tree{{Kids: []api.Tree{comb}}}}, 0, api.ErrMany},
		{"as wide as anything", api.Tree{Kids: make([]api.Tree, 1<<20)}, 0, api.ErrMany},
		{"as wide as may be", api.Tree{Kids: make([]api.Tree, api.MaxNodes-1)}, 0, api.ErrForm},
		{"one wider, of no rule", api.Tree{Rule: -1, Kids: make([]api.Tree, api.MaxNodes)}, 0, api.ErrMany},
	} {
		if text, e := Yield(g, c.tree); e != c.e || len(text) != c.words {
			t.Errorf("%s: %d words, %d", c.name, len(text), e)
		}
	}
}

// F4: against all texts in their order.
func TestTwins(t *testing.T) {
	d := draw(6)
	found := 0
	for range 120 {
		g := d.grammar(3, 8, 3, 3)
		words := []int{}
		for _, r := range g.Rules {
			for _, part := range r.Body {
				if part < 0 && !slices.Contains(words, -part) {
					words = append(words, -part)
				}
			}
		}
		slices.Sort(words)
		var want []int
		for _, text := range textsUpTo(4, words...) {
			if n, on := slowCount(g, text); on || n.Cmp(big.NewInt(1)) > 0 {
				want = text
				break
			}
		}
		for long := range 5 {
			text, ok, e := Twins(g, long)
			if there := want != nil && len(want) <= long; e != api.OK || ok != there || ok && !slices.Equal(text, want) || !ok && text != nil {
				t.Fatalf("%d words of %v: %v %v %d, not %v", long, g, text, ok, e, want)
			}
		}
		if want != nil {
			found++
		}
	}
	if found < 30 {
		t.Errorf("only %d twins", found)
	}
}

// F4: the order of texts, the most words, and the errors.
func TestTwinsEdges(t *testing.T) {
	twice := func(bodies ...[]int) api.Grammar {
		g := api.Grammar{Kinds: 1}
		for _, b := range bodies {
			g.Rules = append(g.Rules, api.Rule{Body: b}, api.Rule{Body: slices.Clone(b)})
		}
		return g
	}
	four := twice([]int{-1, -2, -3, -4})
	for _, c := range []struct {
		name string
		g    api.Grammar
		long int
		text []int
		e    api.Errno
	}{
		{"the shortest", twice([]int{-1, -1}, []int{-2}), 6, []int{2}, api.OK},
		{"the first of those", twice([]int{-30, -1}, []int{-7, -30}, []int{-7, -7, -7}), 6, []int{7, 30}, api.OK},
		{"the longest", twice([]int{-1, -1, -1, -1, -1, -1}), 6, []int{1, 1, 1, 1, 1, 1}, api.OK},
		{"not so long", twice([]int{-1, -1, -1, -1, -1, -1}), 5, nil, api.OK},
		{"the last of all", twice([]int{-3, -3, -3, -3, -3, -3}, []int{0, -1}, []int{0, -2}), 6, []int{3, 3, 3, 3, 3, 3}, api.OK},
		{"without words", twice([]int{0}), 6, nil, api.OK},
		{"without rules", twice(), 6, nil, api.OK},
		{"of no words", twice([]int{-1}), 0, nil, api.OK},
		{"below 0", four, -1, nil, api.ErrRange},
		{"too long", four, api.MaxTwins + 1, nil, api.ErrRange},
		{"the least there is", four, -1 << 63, nil, api.ErrRange},
		{"the greatest there is", four, 1<<63 - 1, nil, api.ErrRange},
		{"four words", four, 0, nil, api.ErrMany},
		{"four words where no tree comes", api.Grammar{Kinds: 2, Rules: []api.Rule{{Head: 1, Body: []int{-1, -2}}, {Head: 1, Body: []int{-3, -30}}}}, 6, nil, api.ErrMany},
	} {
		text, ok, e := Twins(c.g, c.long)
		if !slices.Equal(text, c.text) || ok != (c.text != nil) || e != c.e {
			t.Errorf("%s: %v %v %d", c.name, text, ok, e)
		}
	}
}

// F4: the document's example.
func TestExample(t *testing.T) {
	text := []int{1, 2, 1, 2, 1}
	if n, on, e := Count(sums(), text); n != "2" || on || e != api.OK {
		t.Errorf("%s %v %d", n, on, e)
	}
	if twins, ok, e := Twins(sums(), api.MaxTwins); !slices.Equal(twins, text) || !ok || e != api.OK {
		t.Errorf("%v %v %d", twins, ok, e)
	}
}
