package chance

import (
	"math/big"
	"slices"
	"testing"

	"wordhoard/api"
	"wordhoard/grammar"
)

// G2, G3: against all trees, one by one.
func TestAgainstAllTrees(t *testing.T) {
	d := draw(1)
	several := 0
	for range 5000 {
		c := d.chances(4, 12, 3, 2, []int{2, 10, api.MaxWeight}[d.n(3)])
		text := d.text(6, 2)
		if n, _, _ := grammar.Count(c.Grammar, text); len(n) > 3 {
			continue // one by one they would take too long
		}
		trees := slowTrees(c.Grammar, text)
		if len(trees) > 1 {
			several++
		}
		checkOf(t, c, text)
		checkBest(t, c, text, trees)
		checkUsed(t, c, text)
	}
	if several < 200 {
		t.Errorf("only %d texts with several trees", several)
	}
}

func checkOf(t *testing.T, c api.Chances, text []int) {
	t.Helper()
	want := slowOf(c, slowOdds(c), text).String()
	if p, e := Of(c, text); p != want || e != api.OK {
		t.Fatalf("%v of %v: %s %d, not %s", text, c, p, e, want)
	}
	if p, e := Under(c, told(slowOdds(c)), text); p != want || e != api.OK {
		t.Fatalf("%v of %v: under the same %s %d, not %s", text, c, p, e, want)
	}
}

func checkBest(t *testing.T, c api.Chances, text []int, trees []api.Tree) {
	t.Helper()
	tree, p, ok, e := Best(c, text)
	if e != api.OK || ok != (len(trees) > 0) {
		t.Fatalf("%v of %v: %v %d", text, c, ok, e)
	}
	if !ok {
		if p != "" || tree.Rule != 0 || tree.Kids != nil {
			t.Fatalf("%v of %v: false, and %v %q", text, c, tree, p)
		}
		return
	}
	odds := slowOdds(c)
	most := new(big.Rat)
	for _, other := range trees {
		if w := slowWorth(other, odds); w.Cmp(most) > 0 {
			most = w
		}
	}
	back, e := grammar.Yield(c.Grammar, tree)
	if e != api.OK || !slices.Equal(back, text) || c.Grammar.Rules[tree.Rule].Head != 0 {
		t.Fatalf("%v of %v: %v has %v, %d", text, c, tree, back, e)
	}
	if p != most.String() || slowWorth(tree, odds).Cmp(most) != 0 {
		t.Fatalf("%v of %v: %v %s, not %v", text, c, tree, p, most)
	}
}

func checkUsed(t *testing.T, c api.Chances, text []int) {
	t.Helper()
	used, e := Used(c, text)
	want := slowUsed(c, text)
	if want == nil {
		if e != api.ErrNone || used != nil {
			t.Fatalf("%v of %v: %v %d", text, c, used, e)
		}
		return
	}
	if e != api.OK || !slices.Equal(used, told(want)) {
		t.Fatalf("%v of %v: %v %d, not %v", text, c, used, e, told(want))
	}
}

// G3, G4, G5
func TestBetterIsBetter(t *testing.T) {
	d := draw(2)
	moved, several := 0, 0
	for range 400 {
		c := d.chances(3, 8, 3, 2, []int{2, 10, api.MaxWeight}[d.n(3)])
		texts := d.spoken(c, 1+d.n(api.MaxCorpus), 5, 2)
		if len(texts) == 0 {
			continue
		}
		several++
		p, e := Better(c, texts)
		want := slowBetter(c, texts)
		if e != api.OK || !slices.Equal(p, told(want)) {
			t.Fatalf("%v of %v: %v %d, not %v", texts, c, p, e, told(want))
		}
		before, after := big.NewRat(1, 1), big.NewRat(1, 1)
		for _, text := range texts {
			now, e := Under(c, p, text)
			if must := slowOf(c, want, text).String(); now != must || e != api.OK {
				t.Fatalf("%v of %v: %s %d, not %s", text, c, now, e, must)
			}
			old, _ := Of(c, text)
			before.Mul(before, ratOf(old))
			after.Mul(after, ratOf(now))
		}
		switch after.Cmp(before) {
		case -1:
			t.Fatalf("%v of %v: %v, and was %v", texts, c, after, before)
		case 1:
			moved++
		}
	}
	if several < 150 || moved < 100 {
		t.Errorf("only %d times better of %d", moved, several)
	}
}

// G2 to G5: the most kinds and rules, the longest texts, and as many of them as may be.
func TestTheGreatest(t *testing.T) {
	c := great()
	texts := [][]int{{1, 2, 3, 1, 2, 3, 1, 2}, {1, 1, 1, 1, 1, 1, 1, 1}, {3, 3, 2, 2, 1, 1, 1, 2}, {2, 2, 2, 2, 2, 2, 2, 2}, {9, 2, 3, 3, 2, 1, 1, 2}, {2, 1, 2, 1, 2, 1, 2, 11}}
	p, e := Better(c, texts)
	if e != api.OK {
		t.Fatalf("%d", e)
	}
	before, after := big.NewRat(1, 1), big.NewRat(1, 1)
	for _, text := range texts {
		old, e := Of(c, text)
		now, f := Under(c, p, text)
		if e != api.OK || f != api.OK {
			t.Fatalf("%d %d", e, f)
		}
		before.Mul(before, ratOf(old))
		after.Mul(after, ratOf(now))
	}
	if after.Cmp(before) <= 0 {
		t.Errorf("it is not better")
	}
	short := []int{1, 2, 3}
	checkOf(t, c, short)
	checkBest(t, c, short, slowTrees(c.Grammar, short))
	checkUsed(t, c, short)
}

// G2, G3: a text that has just one tree is as probable as that, and uses its rules as often as they stand there.
func TestOneTree(t *testing.T) {
	c := api.Chances{Grammar: api.Grammar{Kinds: 3, Rules: []api.Rule{{Body: []int{-3, 1, 2, 1}}, {Head: 1, Body: []int{-1}}, {Head: 1, Body: []int{-2}}, {Head: 2, Body: []int{1}}, {Head: 2, Body: []int{-7, -7}}}}, Weights: []int{5, 1, 3, 2, 4}}
	for _, x := range []struct {
		text []int
		p    string
		used []string
	}{
		{[]int{3, 1, 2, 1}, "1/64", []string{"1/1", "2/1", "1/1", "1/1", "0/1"}},
		{[]int{3, 2, 7, 7, 1}, "1/8", []string{"1/1", "1/1", "1/1", "0/1", "1/1"}},
	} {
		p, e := Of(c, x.text)
		tree, most, ok, f := Best(c, x.text)
		used, g := Used(c, x.text)
		if p != x.p || most != x.p || !ok || !slices.Equal(used, x.used) || e != api.OK || f != api.OK || g != api.OK {
			t.Errorf("%v: %s %s %v %v; %d %d %d", x.text, p, most, ok, used, e, f, g)
		}
		if n, _, _ := grammar.Count(c.Grammar, x.text); n != "1" {
			t.Errorf("%v: %s trees", x.text, n)
		}
		if back, _ := grammar.Yield(c.Grammar, tree); !slices.Equal(back, x.text) {
			t.Errorf("%v: %v", x.text, tree)
		}
	}
}

// G3: where the rules of a head are not used, they keep their probability.
func TestBetterKeepsWhatIsNotUsed(t *testing.T) {
	c := api.Chances{Grammar: api.Grammar{Kinds: 4, Rules: []api.Rule{{Body: []int{-1}}, {Body: []int{1}}, {Head: 1, Body: []int{-2}}, {Head: 1, Body: []int{-3}}, {Head: 3, Body: []int{-4}}}}, Weights: []int{1, 1, 4, 6, 9}}
	for _, x := range []struct {
		texts [][]int
		want  []string
	}{
		{[][]int{{1}}, []string{"1/1", "0/1", "2/5", "3/5", "1/1"}},
		{[][]int{{1}, {2}, {2}}, []string{"1/3", "2/3", "1/1", "0/1", "1/1"}},
	} {
		p, e := Better(c, x.texts)
		if !slices.Equal(p, x.want) || e != api.OK {
			t.Errorf("%v: %v %d", x.texts, p, e)
		}
		if now, e := Under(c, p, []int{1}); e != api.OK || now != x.want[0] {
			t.Errorf("%v: %s %d", x.texts, now, e)
		}
	}
}

// G2 to G4: without rules no text has a tree.
func TestWithoutRules(t *testing.T) {
	c := api.Chances{Grammar: api.Grammar{Kinds: 2}}
	p, e := Of(c, []int{1})
	under, f := Under(c, nil, []int{1})
	tree, most, ok, g := Best(c, []int{1})
	used, h := Used(c, []int{1})
	better, i := Better(c, [][]int{{1}})
	if p != "0/1" || under != "0/1" || most != "" || ok || tree.Kids != nil || used != nil || better != nil {
		t.Errorf("%s %s %s %v %v %v", p, under, most, ok, used, better)
	}
	if e != api.OK || f != api.OK || g != api.OK || h != api.ErrNone || i != api.ErrNone {
		t.Errorf("%d %d %d %d %d", e, f, g, h, i)
	}
}

// G4: a rule that is nought takes its trees with it; one that is certain leaves the others none.
func TestUnderNought(t *testing.T) {
	for _, x := range []struct {
		p    []string
		want string
	}{
		{[]string{"0/1", "1/1", "0/1", "1/1", "0/1"}, "0/1"},
		{[]string{"0/1", "1/1", "0/1", "0/1", "1/1"}, "1/1"},
		{[]string{"1/2", "1/2", "0/1", "1/1", "0/1"}, "1/8"},
		{[]string{"1/1", "0/1", "0/1", "1/2", "1/2"}, "0/1"},
		{[]string{"1/3", "1/3", "1/3", "3/7", "4/7"}, "29/147"},
	} {
		if got, e := Under(words(), x.p, []int{1, 1}); got != x.want || e != api.OK {
			t.Errorf("%v: %s %d", x.p, got, e)
		}
	}
}

// G2: the document's example.
func TestExample(t *testing.T) {
	if p, e := Of(coins(), []int{1, 1, 1}); p != "1/8" || e != api.OK {
		t.Errorf("%s %d", p, e)
	}
}
