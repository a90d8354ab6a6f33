package whole

import (
	"fmt"
	"math/big"
	"reflect"
	"slices"
	"strings"
	"testing"

	"wordhoard/api"
	"wordhoard/chance"
	"wordhoard/grammar"
	"wordhoard/pair"
	"wordhoard/reader"
	"wordhoard/spell"
)

func (d *draw) spelling() string {
	var s strings.Builder
	for range d.n(6) {
		s.WriteString([]string{"a", "b", "\u00e9", "\xff"}[d.n(4)])
	}
	return s.String()
}

// How far texts are apart is a distance.
func TestFarIsADistance(t *testing.T) { // E4
	d := draw(1)
	for range 3000 {
		a, b, c := d.spelling(), d.spelling(), d.spelling()
		ab, e := spell.Far(a, b)
		ba, f := spell.Far(b, a)
		bc, g := spell.Far(b, c)
		ac, h := spell.Far(a, c)
		way, i := spell.Way(a, b)
		done, j := spell.Do(a, way)
		ok(t, []string{a, b, c}, e, f, g, h, i, j)
		if ab != ba || (ab == 0) != (a == b) || ac > ab+bc || done != b {
			t.Fatalf("%q, %q, %q: %d %d %d %d %q", a, b, c, ab, ba, bc, ac, done)
		}
	}
}

// All parsers say the same, and trees are as many as there are.
func TestParsersSayTheSame(t *testing.T) { // F5
	d := draw(2)
	there, counted := 0, 0
	for range 300 {
		g := d.grammar(3, 7, 3, 2)
		normal, e := grammar.Normal(g)
		ok(t, g, e)
		for _, text := range texts(2, 4) {
			is, e := grammar.Has(g, text)
			squares, f := grammar.Squares(normal, text)
			count, endless, i := grammar.Count(g, text)
			tree, parsed, j := grammar.Parse(g, text)
			ok(t, g, e, f, i, j)
			if squares != is || parsed != is || (endless || count != "0") != is || endless != (count == "") {
				t.Fatalf("%v of %v: %v %v %v %q %v", text, g, is, squares, parsed, count, endless)
			}
			if !is {
				continue
			}
			there++
			if back, e := grammar.Yield(g, tree); !slices.Equal(back, text) || e != api.OK {
				t.Fatalf("%v of %v: %v %d", text, g, back, e)
			}
			if leadsBack(g) {
				continue
			}
			if all := trees(g, 0, text); endless || count != fmt.Sprint(len(all)) {
				t.Fatalf("%v of %v: %s trees, not %d", text, g, count, len(all))
			}
			counted++
		}
	}
	if there < 500 || counted < 300 {
		t.Errorf("only %d texts with trees, %d of them counted", there, counted)
	}
}

// leadsBack tells whether a kind leads back to itself, so that trees may go on without end.
func leadsBack(g api.Grammar) bool {
	return chance.Check(api.Chances{Grammar: g, Weights: slices.Repeat([]int{1}, len(g.Rules))}) != api.OK
}

// trees of a kind of a text, of a grammar in which no kind leads back to itself.
func trees(g api.Grammar, kind int, text []int) []api.Tree {
	var all []api.Tree
	for i, r := range g.Rules {
		if r.Head == kind {
			for _, kids := range kidsOf(g, r.Body, text) {
				all = append(all, api.Tree{Rule: i, Kids: kids})
			}
		}
	}
	return all
}

func kidsOf(g api.Grammar, body, text []int) [][]api.Tree {
	switch {
	case len(body) == 0 && len(text) == 0:
		return [][]api.Tree{nil}
	case len(body) == 0 || len(body) > len(text):
		return nil
	case body[0] < 0 && text[0] != -body[0]:
		return nil
	case body[0] < 0:
		return kidsOf(g, body[1:], text[1:])
	}
	var all [][]api.Tree
	for end := 1; end <= len(text); end++ {
		rests := kidsOf(g, body[1:], text[end:])
		if len(rests) == 0 {
			continue
		}
		for _, first := range trees(g, body[0], text[:end]) {
			for _, rest := range rests {
				all = append(all, append([]api.Tree{first}, rest...))
			}
		}
	}
	return all
}

// chances in which nothing is wrong.
func (d *draw) chances() api.Chances {
	for {
		c := api.Chances{Grammar: d.grammar(3, 8, 3, 2)}
		for range c.Grammar.Rules {
			c.Weights = append(c.Weights, 1+d.n(9))
		}
		if chance.Check(c) == api.OK {
			return c
		}
	}
}

// Chances never get worse by hearing.
func TestChancesGetBetter(t *testing.T) { // G5
	d := draw(3)
	better := 0
	for range 400 {
		c := d.chances()
		var heard [][]int
		for range 30 {
			if text := d.text(1, 5, 2); len(heard) < 4 {
				if is, _ := grammar.Has(c.Grammar, text); is {
					heard = append(heard, text)
				}
			}
		}
		if len(heard) == 0 {
			continue
		}
		p, e := chance.Better(c, heard)
		ok(t, c, e)
		before, after := big.NewRat(1, 1), big.NewRat(1, 1)
		for _, text := range heard {
			was, e := chance.Of(c, text)
			is, f := chance.Under(c, p, text)
			ok(t, c, e, f)
			before.Mul(before, ratOf(was))
			after.Mul(after, ratOf(is))
		}
		if after.Cmp(before) < 0 {
			t.Fatalf("%v of %v: %v, and was %v", heard, c, after, before)
		}
		if after.Cmp(before) > 0 {
			better++
		}
	}
	if better < 100 {
		t.Errorf("only %d got better", better)
	}
}

// worth of a tree: all its rules' probabilities, multiplied.
func worth(c api.Chances, tree api.Tree) *big.Rat {
	all := 0
	for i, r := range c.Grammar.Rules {
		if r.Head == c.Grammar.Rules[tree.Rule].Head {
			all += c.Weights[i]
		}
	}
	p := big.NewRat(int64(c.Weights[tree.Rule]), int64(all))
	for _, kid := range tree.Kids {
		p.Mul(p, worth(c, kid))
	}
	return p
}

// THE WHOLE: a text with one tree is as probable as that.
func TestOneTreeIsAsProbable(t *testing.T) {
	d := draw(4)
	one, more := 0, 0
	for range 600 {
		c := d.chances()
		for range 20 {
			text := d.text(1, api.MaxSpoken, 2)
			count, endless, e := grammar.Count(c.Grammar, text)
			tree, parsed, f := grammar.Parse(c.Grammar, text)
			best, p, is, g := chance.Best(c, text)
			of, h := chance.Of(c, text)
			ok(t, c, e, f, g, h)
			if endless || is != parsed || is != (count != "0") || !is && of != "0/1" {
				t.Fatalf("%v of %v: %v %v %v, %s", text, c, endless, parsed, is, of)
			}
			if !is {
				continue
			}
			if count != "1" {
				more++
				if ratOf(of).Cmp(worth(c, best)) <= 0 || ratOf(p).Cmp(worth(c, best)) != 0 {
					t.Fatalf("%v of %v: %s, with a tree of %s and others", text, c, of, p)
				}
				continue
			}
			one++
			if of != p || ratOf(of).Cmp(worth(c, tree)) != 0 || !reflect.DeepEqual(tree, best) {
				t.Fatalf("%v of %v: %s, with the only tree %v of %s", text, c, of, tree, p)
			}
		}
	}
	if one < 300 || more < 300 {
		t.Errorf("only %d texts with one tree, %d with more", one, more)
	}
}

// pairing in which nothing is wrong.
func (d *draw) pairing() api.Pairing {
	for {
		g := api.Pairing{Kinds: 1 + d.n(3)}
		for range 1 + d.n(7) {
			r := api.Pair{Head: d.n(g.Kinds)}
			for range 1 + d.n(3) {
				if d.n(2) == 0 {
					r.Left = append(r.Left, -1-d.n(2))
				} else {
					r.Left = append(r.Left, d.n(g.Kinds))
					r.Right = slices.Insert(r.Right, d.n(len(r.Right)+1), len(r.Right))
				}
			}
			if len(r.Right) == 0 || d.n(2) == 0 {
				r.Right = slices.Insert(r.Right, d.n(len(r.Right)+1), -1-d.n(2))
			}
			g.Rules = append(g.Rules, r)
		}
		if pair.Check(g) == api.OK {
			return g
		}
	}
}

// There and back between two languages.
func TestThereAndBack(t *testing.T) { // M5
	d := draw(5)
	there := 0
	for range 300 {
		g := d.pairing()
		turned, e := pair.Turn(g)
		ok(t, g, e)
		told := func(g api.Pairing, text []int) ([][]int, bool) {
			l, e := pair.Translate(g, text)
			return l, e == api.OK
		}
		for _, text := range texts(2, 3)[1:] {
			others, few := told(g, text)
			for _, other := range texts(2, 3)[1:] {
				backs, fewBack := told(turned, other)
				if few && fewBack && has(others, other) != has(backs, text) {
					t.Fatalf("%v: %v is told as %v, %v back as %v", g, text, others, other, backs)
				}
				if few && has(others, other) {
					there++
				}
			}
		}
	}
	if there < 300 {
		t.Errorf("only %d were told", there)
	}
}

// One edit in each word does no harm.
func TestOneEditDoesNoHarm(t *testing.T) { // Q4
	d := draw(6)
	b := api.Book{
		Words:   []string{"birds", "singing", "hear", "\u00e9t\u00e9s", "aab"},
		Grammar: api.Grammar{Kinds: 2, Rules: []api.Rule{{Body: []int{1, -2}}, {Body: []int{1, -3, 1}}, {Head: 1, Body: []int{-1}}, {Head: 1, Body: []int{-4, 1}}}},
	}
	for i, a := range b.Words {
		for _, c := range b.Words[:i] {
			if far, e := spell.Far(a, c); far < 3 || e != api.OK {
				t.Fatalf("%q and %q are %d apart", a, c, far)
			}
		}
	}
	misspelt := func(word string) string {
		letters := []rune(word)
		at := d.n(len(letters))
		other := []rune("xyzABC\u00c9\u0416")[d.n(8)]
		switch d.n(4) {
		case 0:
			letters = slices.Delete(letters, at, at+1)
		case 1:
			letters[at] = other
		case 2:
			letters = slices.Insert(letters, at, other)
		}
		if d.n(2) == 0 {
			return strings.ToUpper(string(letters))
		}
		return string(letters)
	}
	for range 500 {
		words := d.text(0, api.MaxText, len(b.Words))
		if d.n(2) == 0 {
			words = slices.Concat(slices.Repeat([]int{4}, d.n(6)), []int{1, 3}, slices.Repeat([]int{4}, d.n(6)), []int{1})
		}
		said, e := reader.Say(b, words)
		ok(t, words, e)
		var written []string
		for _, word := range strings.Fields(said) {
			written = append(written, misspelt(word))
		}
		text := strings.Join(written, ", ")
		heard, e := reader.Hear(b, text)
		tree, read, f := reader.Read(b, text)
		is, g := grammar.Has(b.Grammar, words)
		ok(t, text, e, f, g)
		if !slices.Equal(heard, words) || read != is {
			t.Fatalf("%q for %q: %v %v", text, said, heard, read)
		}
		if !read {
			continue
		}
		if back, e := grammar.Yield(b.Grammar, tree); !slices.Equal(back, words) || e != api.OK {
			t.Fatalf("%q for %q: %v %d", text, said, back, e)
		}
	}
}
