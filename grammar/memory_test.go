package grammar

import (
	"fmt"
	"slices"
	"testing"

	"wordhoard/api"
)

// roomyGrammar has room behind each list.
func roomyGrammar(g api.Grammar) api.Grammar {
	rules := make([]api.Rule, len(g.Rules))
	for i, r := range g.Rules {
		rules[i] = api.Rule{Head: r.Head, Body: roomy(r.Body, 77)}
	}
	return api.Grammar{Kinds: g.Kinds, Rules: roomy(rules, api.Rule{Head: 77})}
}

func roomyTree(t api.Tree) api.Tree {
	kids := make([]api.Tree, len(t.Kids))
	for i, kid := range t.Kids {
		kids[i] = roomyTree(kid)
	}
	return api.Tree{Rule: t.Rule, Kids: roomy(kids, api.Tree{Rule: 77})}
}

// wholeOf tells all of a grammar, with the room behind its lists.
func wholeOf(g api.Grammar) string {
	s := ""
	for _, r := range g.Rules[:cap(g.Rules)] {
		s += fmt.Sprint(r.Head, r.Body[:cap(r.Body)], ";")
	}
	return s
}

func wholeTree(t api.Tree) string {
	s := fmt.Sprint(t.Rule, "(")
	for _, kid := range t.Kids[:cap(t.Kids)] {
		s += wholeTree(kid)
	}
	return s + ")"
}

// wipe what was handed in.
func wipe(g api.Grammar, text []int) {
	for _, r := range g.Rules {
		clear(r.Body)
	}
	clear(g.Rules)
	clear(text)
}

// P2, P3: what is handed in is only read, and not kept.
func TestInputsAreOnlyRead(t *testing.T) {
	for _, plain := range []api.Grammar{sums(), round(), {Kinds: 1, Rules: []api.Rule{{Body: []int{-1}}, {Body: []int{0, 0}}}}} {
		g, text := roomyGrammar(plain), roomy([]int{1, 2, 1, 2, 1}, 77)
		before := wholeOf(g) + fmt.Sprint(text[:cap(text)])
		first := answers(g, text)
		if now := wholeOf(g) + fmt.Sprint(text[:cap(text)]); now != before {
			t.Fatalf("it was\n%s\nand is\n%s", before, now)
		}
		if again := answers(g, text); fmt.Sprint(again...) != fmt.Sprint(first...) {
			t.Errorf("it says\n%v\nthen\n%v", first, again)
		}
		said := fmt.Sprint(first...)
		wipe(g, text)
		if now := fmt.Sprint(first...); now != said {
			t.Errorf("it said\n%s\nwhich is now\n%s", said, now)
		}
	}
}

func answers(g api.Grammar, text []int) []any {
	has, e := Has(g, text)
	normal, f := Normal(g)
	fine, h := Squares(normal, text)
	n, on, i := Count(g, text)
	tree, ok, j := Parse(g, text)
	back, k := Yield(g, tree)
	twin, two, l := Twins(g, 5)
	own, m := Squares(g, text)
	return []any{has, e, normal, f, fine, h, n, on, i, tree, ok, j, back, k, twin, two, l, own, m, Check(g)}
}

// P2
func TestTreesAreOnlyRead(t *testing.T) {
	one := api.Tree{Rule: 1}
	tree := roomyTree(api.Tree{Kids: []api.Tree{one, {Kids: []api.Tree{one, one}}}})
	before := wholeTree(tree)
	text, e := Yield(sums(), tree)
	if e != api.OK || wholeTree(tree) != before {
		t.Errorf("%d: it was %s and is %s", e, before, wholeTree(tree))
	}
	clear(tree.Kids)
	if !slices.Equal(text, []int{1, 2, 1, 2, 1}) {
		t.Errorf("it is %v", text)
	}
}

// P2: lists of an answer share no memory, the room behind them neither.
func TestListsOfAnAnswerAreApart(t *testing.T) {
	for _, g := range []api.Grammar{sums(), round(), ladder(3, 12)} {
		normal, _ := Normal(g)
		want := fmt.Sprint(normal)
		for _, r := range normal.Rules {
			_ = append(r.Body, 99)
		}
		if now := fmt.Sprint(normal); now != want {
			t.Fatalf("it was\n%s\nand is\n%s", want, now)
		}
	}
	tree, _, _ := Parse(sums(), []int{1, 2, 1, 2, 1, 2, 1})
	want := fmt.Sprint(tree)
	var each func(t api.Tree)
	each = func(t api.Tree) {
		_ = append(t.Kids, api.Tree{Rule: 99})
		for _, kid := range t.Kids {
			each(kid)
		}
	}
	each(tree)
	if now := fmt.Sprint(tree); now != want {
		t.Errorf("it was\n%s\nand is\n%s", want, now)
	}
}

// P2: a change of one body is a change of that alone.
func TestBodiesOfNormalAreApart(t *testing.T) {
	normal, _ := Normal(api.Grammar{Kinds: 4, Rules: []api.Rule{{Body: []int{1}}, {Head: 1, Body: []int{2}}, {Head: 2, Body: []int{-1}}, {Head: 2, Body: []int{3, 3}}, {Head: 3, Body: []int{-2}}}})
	for i, r := range normal.Rules {
		was := r.Body[0]
		r.Body[0] = 999
		for k, other := range normal.Rules {
			if k != i && slices.Contains(other.Body, 999) {
				t.Fatalf("rules %d and %d share a body", i, k)
			}
		}
		r.Body[0] = was
	}
}
