package sense

import (
	"testing"

	"wordhoard/api"
)

// checkWhy: what Why tells is a good reason, and of the other one there is none.
func checkWhy(t *testing.T, s api.Scene, said api.Saying, order []int) api.Reason {
	t.Helper()
	so, why, e := Why(s, said, order)
	if e != api.OK || so != slowHolds(s, said, order) {
		t.Fatalf("%v of %v in %v: %v %d", said, s, order, so, e)
	}
	if !slowGood(s, said, order, so, why) || reasonsIn(why) > api.MaxReason {
		t.Fatalf("%v of %v in %v: %v, as %v", said, s, order, so, why)
	}
	good, e := Good(s, said, order, so, why)
	bad, f := Good(s, said, order, !so, why)
	if !good || bad || e != api.OK || f != api.OK {
		t.Fatalf("%v of %v in %v: %v %d and %v %d", said, s, order, good, e, bad, f)
	}
	return why
}

// L3, L5
func TestWhy(t *testing.T) {
	d := draw(4)
	var seen both
	for range 3000 {
		s := d.scene(api.MaxScene)
		said := d.saying(s)
		for _, order := range slowOrders(len(said.Phrases)) {
			why := checkWhy(t, s, said, order)
			so, _ := Holds(s, said, order)
			seen.add(so)
			for range 5 {
				other := d.spoilt(why)
				for _, so := range []bool{false, true} {
					if good, e := Good(s, said, order, so, other); good != slowGood(s, said, order, so, other) || e != api.OK {
						t.Fatalf("%v of %v in %v, %v: %v %v %d", said, s, order, so, other, good, e)
					}
				}
			}
		}
	}
	seen.least(t, 1000)
}

// L3, L5: all good reasons are good, and there are some for just one of both.
func TestAllGoodReasons(t *testing.T) {
	d := draw(5)
	several := 0
	for range 4000 {
		s := d.scene(2)
		said := d.saying(s)
		for _, order := range slowOrders(len(said.Phrases)) {
			holds := slowHolds(s, said, order)
			reasons := slowReasons(s, said, order, map[int]int{}, holds)
			if len(reasons) == 0 || len(slowReasons(s, said, order, map[int]int{}, !holds)) > 0 {
				t.Fatalf("%v of %v in %v: reasons for none or both", said, s, order)
			}
			if len(reasons) > 1 {
				several++
			}
			for _, kids := range reasons {
				why := api.Reason{Who: -1, Kids: kids}
				good, _ := Good(s, said, order, holds, why)
				bad, _ := Good(s, said, order, !holds, why)
				if !good || bad {
					t.Fatalf("%v of %v in %v: %v is %v and %v", said, s, order, why, good, bad)
				}
			}
		}
	}
	if several < 500 {
		t.Errorf("only %d with several reasons", several)
	}
}

// L3: a reason of the most individuals there may be.
func TestWhyOfTheMost(t *testing.T) {
	s := crowd()
	said := api.Saying{Verb: 9, Phrases: []api.Phrase{{Quant: api.QuantEvery, Noun: 9}, {Quant: api.QuantEvery, Noun: 8}, {Quant: api.QuantEvery}}}
	if why := checkWhy(t, s, said, []int{2, 1, 0}); reasonsIn(why) != 1+5+25+125 {
		t.Errorf("%d reasons", reasonsIn(why))
	}
}

// L3: reasons that are nearly good.
func TestBadReasons(t *testing.T) {
	s := api.Scene{Size: 3, Nouns: []int{7, 5, 0}, Verbs: []api.Verb{{Places: 2, Of: [][]int{{0, 0}, {1, 1}, {2, 0}, {2, 2}}}}}
	every := api.Saying{Phrases: []api.Phrase{{Quant: api.QuantEvery, Noun: 1}, {Quant: api.QuantSome, Noun: 0}}}
	of := func(who int, kids ...api.Reason) api.Reason { return api.Reason{Who: who, Kids: kids} }
	for i, c := range []struct {
		why  api.Reason
		good bool
	}{
		{of(-1, of(0, of(0)), of(2, of(0))), true},
		{of(-1, of(0, of(0)), of(2, of(2))), true},
		{of(0, of(0, of(0)), of(2, of(0))), false},
		{of(-2, of(0, of(0)), of(2, of(0))), false},
		{of(-1), false},
		{of(-1, of(0, of(0))), false},
		{of(-1, of(2, of(0)), of(0, of(0))), false},
		{of(-1, of(0, of(0)), of(1, of(1)), of(2, of(0))), false},
		{of(-1, of(0, of(0)), of(0, of(0))), false},
		{of(-1, of(0, of(0)), of(2, of(1))), false},
		{of(-1, of(0, of(0)), of(2, of(3))), false},
		{of(-1, of(0, of(0)), of(2, of(-1))), false},
		{of(-1, of(0, of(0)), of(2)), false},
		{of(-1, of(0, of(0)), of(2, of(0), of(2))), false},
		{of(-1, of(0, of(0)), of(2, of(0, of(0)))), false},
	} {
		if good, e := Good(s, every, []int{0, 1}, true, c.why); good != c.good || e != api.OK {
			t.Errorf("%d: %v %d", i, good, e)
		}
		if good, e := Good(s, every, []int{0, 1}, false, c.why); good || e != api.OK {
			t.Errorf("%d: it is good that it is not so, %d", i, e)
		}
	}
}
