package grammar

import (
	"slices"
	"testing"

	"wordhoard/api"
)

// F2, F3, F5: all parsers say what the bodies make.
func TestParsersSayTheSame(t *testing.T) {
	d := draw(1)
	texts := textsUpTo(6, 1, 2)
	yes := 0
	for range 250 {
		g := d.grammar(4, 8, 4, 2)
		normal, e := Normal(g)
		if e != api.OK {
			t.Fatalf("%v: Normal %d", g, e)
		}
		known := slowTexts(g, 6)[0]
		for _, text := range texts {
			want := known[key(text)]
			has, e := Has(g, text)
			fine, f := Squares(normal, text)
			n, on, h := Count(g, text)
			tree, ok, i := Parse(g, text)
			if e != api.OK || f != api.OK || h != api.OK || i != api.OK {
				t.Fatalf("%v of %v: %d %d %d %d", text, g, e, f, h, i)
			}
			if has != want || fine != want || (on || n != "0") != want || ok != want {
				t.Fatalf("%v of %v: %v %v %q %v %v, not %v", text, g, has, fine, n, on, ok, want)
			}
			if ok {
				yes++
				checkParsed(t, g, tree, text)
			}
		}
	}
	if yes < 1000 {
		t.Errorf("only %d texts have trees", yes)
	}
}

// F4, F5
func checkParsed(t *testing.T, g api.Grammar, tree api.Tree, text []int) {
	t.Helper()
	if !isTree(g, tree, 0, text) {
		t.Fatalf("%v of %v: %v", text, g, tree)
	}
	if n := nodes(tree); n > api.MaxNodes {
		t.Fatalf("%v of %v: %d rules", text, g, n)
	}
	if back, e := Yield(g, tree); e != api.OK || !slices.Equal(back, text) {
		t.Fatalf("%v of %v: %v %d", text, g, back, e)
	}
}

// F2, F3, F5: long texts, and grammars of any size.
func TestParsersSayTheSameOfGreatOnes(t *testing.T) {
	d := draw(2)
	yes := 0
	for range 100 {
		g := d.grammar(api.MaxKinds, api.MaxRules, api.MaxBody, 2)
		normal, _ := Normal(g)
		for range 10 {
			text := make([]int, 8+d.n(api.MaxText-7))
			for i := range text {
				text[i] = 1 + d.n(2)
			}
			has, _ := Has(g, text)
			fine, _ := Squares(normal, text)
			n, on, _ := Count(g, text)
			tree, ok, _ := Parse(g, text)
			if fine != has || (on || n != "0") != has || ok != has {
				t.Fatalf("%v of %v: %v %v %q %v %v", text, g, has, fine, n, on, ok)
			}
			if ok {
				yes++
				checkParsed(t, g, tree, text)
			}
		}
	}
	if yes < 200 {
		t.Errorf("only %d texts have trees", yes)
	}
}

// F3
func TestNormalIsNormalAndHasTheSameTexts(t *testing.T) {
	d := draw(3)
	for range 300 {
		g := d.grammar(5, 10, api.MaxBody, 3)
		normal, _ := Normal(g)
		checkNormal(t, g, normal)
		want, got := slowTexts(g, 6)[0], slowTexts(normal, 6)[0]
		if len(want) != len(got) {
			t.Fatalf("%v: %d texts, not %d", g, len(got), len(want))
		}
		for text := range want {
			if !got[text] {
				t.Fatalf("%v: %q is lacking", g, text)
			}
		}
	}
}

func checkNormal(t *testing.T, g, normal api.Grammar) {
	t.Helper()
	if normal.Kinds < 1 || normal.Kinds > api.MaxFine || len(normal.Rules) > api.MaxFineRules {
		t.Fatalf("%v: %d kinds, %d rules", g, normal.Kinds, len(normal.Rules))
	}
	for _, r := range normal.Rules {
		one := len(r.Body) == 1 && r.Body[0] < 0
		two := len(r.Body) == 2 && r.Body[0] >= 0 && r.Body[1] >= 0
		if !one && !two {
			t.Fatalf("%v: %v", g, r)
		}
	}
	if _, e := Squares(normal, nil); e != api.OK {
		t.Fatalf("%v: Squares %d", g, e)
	}
}

// F3: the most that can come of it. Each kind leads to each, and no body has a part of another one.
func TestNormalOfTheGreatest(t *testing.T) {
	long := api.Grammar{Kinds: api.MaxKinds}
	for i := range api.MaxRules {
		r := api.Rule{Head: i % api.MaxKinds}
		for j := range api.MaxBody {
			r.Body = append(r.Body, -1-(i+j*7)%api.MaxWord)
		}
		long.Rules = append(long.Rules, r)
	}
	ring := long
	ring.Rules = slices.Clone(long.Rules)
	for kind := range api.MaxKinds {
		ring.Rules[kind] = api.Rule{Head: kind, Body: []int{(kind + 1) % api.MaxKinds}}
	}
	for _, g := range []api.Grammar{long, ring, ladder(3, 12)} {
		normal, e := Normal(g)
		if e != api.OK {
			t.Fatalf("%d", e)
		}
		checkNormal(t, g, normal)
		for _, r := range g.Rules {
			var text []int
			for _, part := range r.Body {
				text = append(text, max(1, -part))
			}
			has, _ := Has(g, text)
			if fine, _ := Squares(normal, text); fine != has {
				t.Errorf("%v: %v, not %v", text, fine, has)
			}
		}
	}
}

// F2, F3: a grammar without rules, and kinds without trees.
func TestNoTrees(t *testing.T) {
	for _, g := range []api.Grammar{
		{Kinds: 1},
		{Kinds: 1, Rules: []api.Rule{{Body: []int{0}}}},
		{Kinds: 1, Rules: []api.Rule{{Body: []int{0, 0}}}},
		{Kinds: 2, Rules: []api.Rule{{Head: 1, Body: []int{-1}}}},
		{Kinds: 2, Rules: []api.Rule{{Body: []int{1, -1}}, {Body: []int{0}}, {Head: 1, Body: []int{0}}}},
	} {
		normal, e := Normal(g)
		if e != api.OK {
			t.Fatalf("%v: %d", g, e)
		}
		for _, text := range textsUpTo(4, 1, 2) {
			has, _ := Has(g, text)
			fine, f := Squares(normal, text)
			n, on, _ := Count(g, text)
			tree, ok, _ := Parse(g, text)
			if has || fine || f != api.OK || n != "0" || on || ok || tree.Rule != 0 || tree.Kids != nil {
				t.Errorf("%v of %v: %v %v %d %q %v %v", text, g, has, fine, f, n, on, ok)
			}
		}
	}
}

// F3: Squares of grammars that Normal did not make, as great as they may be.
func TestSquaresOfTheGreatest(t *testing.T) {
	d := draw(4)
	g := api.Grammar{Kinds: api.MaxFine, Rules: []api.Rule{{Head: api.MaxFine - 1, Body: []int{-1}}}}
	last := api.MaxFine - 1
	for kind := range last { // a kind has a text of just as many words as it is below the last one, and one
		g.Rules = append(g.Rules, api.Rule{Head: kind, Body: []int{last, kind + 1}})
	}
	g.Rules[1] = api.Rule{Body: []int{last - 14, last}}
	for len(g.Rules) < api.MaxFineRules {
		g.Rules = append(g.Rules, api.Rule{Head: d.n(last), Body: []int{d.n(10), d.n(10)}})
	}
	for n := range api.MaxText + 1 {
		has, e := Squares(g, fill(n, 1))
		if e != api.OK || has != (n == 16) {
			t.Errorf("%d words: %v %d", n, has, e)
		}
	}
}
