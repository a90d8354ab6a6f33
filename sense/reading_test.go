package sense

import (
	"reflect"
	"slices"
	"testing"

	"wordhoard/api"
)

// L2: the document's example.
func TestTwoWhoSeeThemselves(t *testing.T) {
	said := api.Saying{Phrases: []api.Phrase{{Quant: api.QuantEvery}, {Quant: api.QuantSome}}}
	l, e := Readings(mirror(), said)
	if e != api.OK || !reflect.DeepEqual(l, [][]int{{0, 1}}) {
		t.Errorf("%v %d", l, e)
	}
	if holds, e := Holds(mirror(), said, []int{0, 1}); !holds || e != api.OK {
		t.Errorf("not every one sees some one: %d", e)
	}
	if holds, e := Holds(mirror(), said, []int{1, 0}); holds || e != api.OK {
		t.Errorf("some one is seen by every one: %d", e)
	}
}

// L2: against what comes of a saying from the inside out.
func TestHolds(t *testing.T) {
	d := draw(1)
	var seen both
	var apart int
	for range 3000 {
		s := d.scene(api.MaxScene)
		said := d.saying(s)
		var want [][]int
		for _, order := range slowOrders(len(said.Phrases)) {
			so := slowHolds(s, said, order)
			if so {
				want = append(want, order)
			}
			seen.add(so)
			if holds, e := Holds(s, said, order); holds != so || e != api.OK {
				t.Fatalf("%v of %v in %v: %v %d", said, s, order, holds, e)
			}
		}
		l, e := Readings(s, said)
		if e != api.OK || len(l) != len(want) || len(want) > 0 && !reflect.DeepEqual(l, want) {
			t.Fatalf("%v of %v: %v %d, not %v", said, s, l, e, want)
		}
		if len(l) > 0 && len(l) < len(slowOrders(len(said.Phrases))) {
			apart++
		}
	}
	seen.least(t, 1000)
	if apart < 300 {
		t.Errorf("only %d sayings hold in some orders, and not in others", apart)
	}
}

// L2: all sayings of two places, in all scenes of two.
func TestAllSmallScenes(t *testing.T) {
	lists := listsOf(2, 2)
	for set := range 1 << len(lists) {
		s := api.Scene{Size: 2, Nouns: []int{0, 1, 2, 3}, Verbs: []api.Verb{{Places: 2}}}
		for i, list := range lists {
			if set>>i&1 == 1 {
				s.Verbs[0].Of = append(s.Verbs[0].Of, list)
			}
		}
		for i := range 3 * 3 * 4 * 4 {
			said := api.Saying{Phrases: []api.Phrase{{Quant: 1 + i%3, Noun: i / 9 % 4}, {Quant: 1 + i/3%3, Noun: i / 36}}}
			for _, order := range slowOrders(2) {
				if holds, _ := Holds(s, said, order); holds != slowHolds(s, said, order) {
					t.Fatalf("%v of %v in %v: %v", said, s, order, holds)
				}
				checkWhy(t, s, said, order)
			}
		}
	}
}

// L2, L3: where nobody is, every one and no one does all, and some one nothing.
func TestNobodyIsThere(t *testing.T) {
	s := api.Scene{Nouns: []int{0}, Verbs: []api.Verb{{Places: 1}, {Places: 3}}}
	for quant := api.QuantEvery; quant <= api.QuantNo; quant++ {
		said := api.Saying{Verb: 1, Phrases: []api.Phrase{{Quant: api.QuantSome}, {Quant: quant}, {Quant: api.QuantSome}}}
		order := []int{1, 0, 2}
		so, why, e := Why(s, said, order)
		if so != (quant != api.QuantSome) || why.Who != -1 || len(why.Kids) > 0 || e != api.OK {
			t.Errorf("quantifier %d: %v %v %d", quant, so, why, e)
		}
		good, _ := Good(s, said, order, so, api.Reason{Who: -1})
		bad, _ := Good(s, said, order, !so, api.Reason{Who: -1})
		if !good || bad {
			t.Errorf("quantifier %d: %v %v", quant, good, bad)
		}
	}
}

// L5: what some one does to every one, every one has done to them by some one.
func TestSomeOneAheadOfEveryOne(t *testing.T) {
	d := draw(2)
	var seen both
	for range 3000 {
		s := d.scene(4)
		said := d.saying(s)
		said.Verb, said.Phrases = 1, []api.Phrase{{Quant: api.QuantSome, Noun: d.n(len(s.Nouns))}, {Quant: api.QuantEvery, Noun: d.n(len(s.Nouns))}}
		first, _ := Holds(s, said, []int{0, 1})
		second, _ := Holds(s, said, []int{1, 0})
		if first && !second {
			t.Fatalf("%v of %v", said, s)
		}
		seen.add(first)
	}
	seen.least(t, 300)
}

// P3: all orders are looked at at the same time, and each is told as if it were alone.
func TestReadingsAreTheSameEachTime(t *testing.T) {
	d := draw(3)
	for range 50 {
		s := d.scene(api.MaxScene)
		said := d.saying(s)
		first, _ := Readings(s, said)
		answers := make(chan [][]int)
		for range 20 {
			go func() {
				l, _ := Readings(s, said)
				answers <- l
			}()
		}
		for range 20 {
			if l := <-answers; !slices.EqualFunc(l, first, slices.Equal[[]int]) {
				t.Fatalf("%v of %v: %v, then %v", said, s, first, l)
			}
		}
	}
}
