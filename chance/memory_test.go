package chance

import (
	"fmt"
	"testing"

	"wordhoard/api"
)

// roomyChances have room behind each list.
func roomyChances(c api.Chances) api.Chances {
	rules := make([]api.Rule, len(c.Grammar.Rules))
	for i, r := range c.Grammar.Rules {
		rules[i] = api.Rule{Head: r.Head, Body: roomy(r.Body, 77)}
	}
	return api.Chances{
		Grammar: api.Grammar{Kinds: c.Grammar.Kinds, Rules: roomy(rules, api.Rule{Head: 77})},
		Weights: roomy(c.Weights, 77),
	}
}

// handed is all that is handed in, with the room behind its lists.
type handed struct {
	c     api.Chances
	texts [][]int
	p     []string
}

func (h handed) whole() string {
	s := fmt.Sprint(h.c.Weights[:cap(h.c.Weights)], h.p[:cap(h.p)])
	for _, r := range h.c.Grammar.Rules[:cap(h.c.Grammar.Rules)] {
		s += fmt.Sprint(r.Head, r.Body[:cap(r.Body)], ";")
	}
	for _, text := range h.texts[:cap(h.texts)] {
		s += fmt.Sprint(text[:cap(text)], ";")
	}
	return s
}

func (h handed) wipe() {
	for _, r := range h.c.Grammar.Rules {
		clear(r.Body)
	}
	clear(h.c.Grammar.Rules)
	clear(h.c.Weights)
	for _, text := range h.texts {
		clear(text)
	}
	clear(h.p)
}

func (h handed) answers() []any {
	p, e := Of(h.c, h.texts[0])
	tree, most, ok, f := Best(h.c, h.texts[0])
	used, g := Used(h.c, h.texts[0])
	better, i := Better(h.c, h.texts)
	under, j := Under(h.c, h.p, h.texts[0])
	return []any{p, e, tree, most, ok, f, used, g, better, i, under, j, Check(h.c)}
}

// P2, P3: what is handed in is only read, and not kept, and the answers are the same each time.
func TestInputsAreOnlyRead(t *testing.T) {
	h := handed{
		c:     roomyChances(words()),
		texts: roomy([][]int{roomy([]int{1, 2, 1, 1}, 77), roomy([]int{1, 1, 1}, 77)}, []int{77}),
		p:     roomy([]string{"1/3", "1/3", "1/3", "1/2", "1/2"}, "77"),
	}
	before := h.whole()
	first := h.answers()
	if now := h.whole(); now != before {
		t.Fatalf("it was\n%s\nand is\n%s", before, now)
	}
	said := fmt.Sprint(first...)
	for range 5 {
		if again := fmt.Sprint(h.answers()...); again != said {
			t.Fatalf("it says\n%s\nthen\n%s", said, again)
		}
	}
	h.wipe()
	if now := fmt.Sprint(first...); now != said {
		t.Errorf("it said\n%s\nwhich is now\n%s", said, now)
	}
}

// P2: lists of a tree share no memory, the room behind them neither.
func TestListsOfATreeAreApart(t *testing.T) {
	tree, _, _, _ := Best(words(), []int{1, 2, 1, 1, 2, 2, 1, 1})
	want := fmt.Sprint(tree)
	var each func(t api.Tree)
	each = func(t api.Tree) {
		_ = append(t.Kids, api.Tree{Rule: 99})
		for _, kid := range t.Kids {
			each(kid)
		}
	}
	each(tree)
	if now := fmt.Sprint(tree); now != want {
		t.Errorf("it was\n%s\nand is\n%s", want, now)
	}
}
