package pair

import (
	"reflect"
	"slices"
	"testing"

	"wordhoard/api"
)

// M2
func TestTranslate(t *testing.T) {
	for _, c := range []struct {
		text []int
		want [][]int
	}{
		{[]int{1}, nil},
		{[]int{2, 2}, [][]int{{4, 4}}},
		{[]int{1, 2}, [][]int{{4, 3}, {4, 5, 5}}},
		{[]int{1, 1}, [][]int{{3, 3}, {3, 5, 5}, {5, 5, 3}, {5, 5, 5, 5}}},
		{[]int{2, 1, 2}, [][]int{{4, 3, 9, 4}, {4, 5, 5, 9, 4}}},
		{[]int{3, 4}, nil},
	} {
		if l, e := Translate(shift(), c.text); e != api.OK || !sameTexts(l, c.want) {
			t.Errorf("%v: %v %d, not %v", c.text, l, e, c.want)
		}
	}
}

// M2: against all trees, one by one.
func TestTranslateAgainstAllTrees(t *testing.T) {
	d := draw(2)
	var some, several both
	for range 12000 {
		g := d.pairing(4, 9, 1+d.n(4), 2)
		for range 5 {
			text := d.text(5, 2)
			want := slowOthers(g, text)
			l, e := Translate(g, text)
			if len(want) > api.MaxTold {
				if l != nil || e != api.ErrMany {
					t.Fatalf("%v of %v: %v %d", text, g, l, e)
				}
				continue
			}
			if e != api.OK || !sameTexts(l, want) {
				t.Fatalf("%v of %v: %v %d, not %v", text, g, l, e, want)
			}
			some.add(len(l) > 0)
			several.add(len(l) > 1)
		}
	}
	some.least(t, 1000)
	several.least(t, 500)
}

// M2: just as many as may be told, and one more.
func TestTranslateToMany(t *testing.T) {
	g := choices(10, 10, 5)
	l, e := Translate(g, []int{1, 1, 1})
	if e != api.OK || len(l) != api.MaxTold || !sameTexts(l, slowOthers(g, []int{1, 1, 1})) {
		t.Errorf("%d texts, %d", len(l), e)
	}
	g.Rules = append(g.Rules, api.Pair{Left: []int{-1, -1, -1}, Right: []int{-5, -10, -10}})
	if l, e := Translate(g, []int{1, 1, 1}); e != api.OK || len(l) != api.MaxTold {
		t.Errorf("one of them twice: %d texts, %d", len(l), e)
	}
	g.Rules = append(g.Rules, api.Pair{Left: []int{-1, -1, -1}, Right: []int{-6, -10, -10}})
	if l, e := Translate(g, []int{1, 1, 1}); e != api.ErrMany || l != nil {
		t.Errorf("one more: %d texts, %d", len(l), e)
	}
	for _, many := range [][]int{{8, 8, 8}, {30, 9, 1}, {7, 7, 7, 7}, {6, 6, 6, 6, 6}} {
		if l, e := Translate(choices(many...), fill(len(many), 1)); e != api.ErrMany || l != nil {
			t.Errorf("%v: %d texts, %d", many, len(l), e)
		}
	}
}

// M2: what has many other texts, but stands in no tree of the whole, is no matter.
func TestManyThatAreNotTold(t *testing.T) {
	g := choices(8, 8, 8, 8)
	g.Kinds++ // kind 0 becomes the last one
	for i := range g.Rules {
		if g.Rules[i].Head == 0 {
			g.Rules[i].Head = g.Kinds - 1
		}
	}
	last := g.Kinds - 1
	g.Rules = append(g.Rules,
		api.Pair{Left: []int{last, -2}, Right: []int{-1, 0}},
		api.Pair{Left: []int{last, 0}, Right: []int{0, 1}},
		api.Pair{Left: []int{0, last}, Right: []int{1, 0}},
		api.Pair{Left: []int{-1, -1, -1, -1, -3}, Right: []int{-7}})
	for _, c := range []struct {
		text []int
		want [][]int
		e    api.Errno
	}{
		{[]int{1, 1, 1, 1, 3}, [][]int{{7}}, api.OK},
		{[]int{1, 1, 1, 1, 2}, nil, api.ErrMany},
		{[]int{1, 1, 1, 1}, nil, api.OK},
		{[]int{1, 1, 1, 1, 1, 1, 1, 1}, nil, api.OK},
	} {
		if l, e := Translate(g, c.text); e != c.e || !sameTexts(l, c.want) {
			t.Errorf("%v: %v %d, not %v", c.text, l, e, c.want)
		}
	}
}

// M2: many trees, and long texts, but few that differ; each is told once.
func TestTranslateToFewOfMany(t *testing.T) {
	g := api.Pairing{Kinds: api.MaxKinds}
	last := api.MaxKinds - 1
	for kind := range last {
		g.Rules = append(g.Rules, api.Pair{Head: kind, Left: []int{kind + 1}, Right: []int{0}}, api.Pair{Head: kind, Left: []int{kind + 1}, Right: []int{-1, 0, -1, -1, -1, -1}})
	}
	g.Rules = append(g.Rules, api.Pair{Head: last, Left: []int{-1}, Right: []int{-1}}, api.Pair{Left: []int{0, 0}, Right: []int{1, 0}}, api.Pair{Left: []int{0, 0}, Right: []int{0, 1}})
	l, e := Translate(g, fill(api.MaxSpoken, 1))
	var want [][]int
	for i := range 8*9 + 1 { // of each word, nine times five more words or not
		want = append(want, fill(8+5*i, 1))
	}
	if e != api.OK || !sameTexts(l, want) {
		t.Errorf("%d texts, %d, not %d", len(l), e, len(want))
	}
}

// M2
func TestTurn(t *testing.T) {
	g := api.Pairing{Kinds: 4, Rules: []api.Pair{
		{Left: []int{3, -1, 1, 2}, Right: []int{2, 0, -7, -8, 1}},
		{Head: 2, Left: []int{-1, -2}, Right: []int{-3}},
		{Head: 3, Left: []int{-1, 0}, Right: []int{0, -1}},
	}}
	want := api.Pairing{Kinds: 4, Rules: []api.Pair{
		{Left: []int{2, 3, -7, -8, 1}, Right: []int{1, -1, 2, 0}},
		{Head: 2, Left: []int{-3}, Right: []int{-1, -2}},
		{Head: 3, Left: []int{0, -1}, Right: []int{-1, 0}},
	}}
	if got, e := Turn(g); e != api.OK || !reflect.DeepEqual(got, want) {
		t.Errorf("%v %d, not %v", got, e, want)
	}
	if got, e := Turn(api.Pairing{Kinds: 7}); e != api.OK || got.Kinds != 7 || len(got.Rules) > 0 {
		t.Errorf("without rules: %v %d", got, e)
	}
}

// turnedTree is the tree of the turned pairing: its kids are in the order of Right.
func turnedTree(g api.Pairing, t api.Tree) api.Tree {
	turned := api.Tree{Rule: t.Rule}
	for _, part := range g.Rules[t.Rule].Right {
		if part >= 0 {
			turned.Kids = append(turned.Kids, turnedTree(g, t.Kids[part]))
		}
	}
	return turned
}

// M2: turned twice it is as it was; and a tree, turned, has the texts the other way round.
func TestTurnOfMany(t *testing.T) {
	d := draw(3)
	trees := 0
	for range 10000 {
		g := d.pairing(4, 9, 1+d.n(5), 2)
		turned, e := Turn(g)
		again, f := Turn(turned)
		if e != api.OK || f != api.OK || Check(turned) != api.OK || !reflect.DeepEqual(again, g) {
			t.Fatalf("%v: %v %d, and back %v %d", g, turned, e, again, f)
		}
		text := d.text(4, 2)
		for _, tree := range slowTrees(g, 0, text) {
			trees++
			other := turnedTree(g, tree)
			if back := slowOther(turned, other); !slices.Equal(back, text) {
				t.Fatalf("%v of %v: %v, turned %v, has %v", text, g, tree, other, back)
			}
		}
	}
	if trees < 1000 {
		t.Errorf("only %d trees", trees)
	}
}

// M5: one is told of another one just if that is told of it by the pairing that is turned.
func TestThereAndBack(t *testing.T) {
	d := draw(4)
	told, back := 0, 0
	for range 1000 {
		g := d.pairing(3, 8, 3, 2)
		turned, _ := Turn(g)
		texts := textsUpTo(4, 1, 2)
		there, here := map[int][][]int{}, map[int][][]int{}
		for i, text := range texts {
			there[i], _ = Translate(g, text)
			here[i], _ = Translate(turned, text)
		}
		for i, text := range texts {
			for j, other := range texts {
				if hasText(there[i], other) != hasText(here[j], text) {
					t.Fatalf("%v: %v of %v is %v, turned it is %v", g, other, text, there[i], here[j])
				}
			}
			for _, other := range there[i] {
				told++
				if len(other) > api.MaxSpoken {
					continue
				}
				l, e := Translate(turned, other)
				if e == api.OK && !hasText(l, text) {
					t.Fatalf("%v: %v of %v, and back %v", g, other, text, l)
				}
				if e == api.OK && len(other) > 4 {
					back++
				}
			}
		}
	}
	if told < 3000 || back < 300 {
		t.Errorf("only %d, and %d long ones", told, back)
	}
}
