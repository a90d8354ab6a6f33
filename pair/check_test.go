package pair

import (
	"math"
	"slices"
	"testing"

	"wordhoard/api"
)

// wrong pairings, and what is wrong with them: each has what stands behind it wrong too, where it can.
func wrong() []struct {
	name string
	g    api.Pairing
	e    api.Errno
} {
	of := func(head int, left, right []int) api.Pair { return api.Pair{Head: head, Left: left, Right: right} }
	with := func(kinds int, rules ...api.Pair) api.Pairing { return api.Pairing{Kinds: kinds, Rules: rules} }
	word := of(0, []int{-1}, []int{-1})
	long, noHead, twice := of(0, []int{-1}, fill(api.MaxBody+1, 9)), of(9, []int{-1}, []int{-1}), of(0, []int{0, -1}, []int{0, 0})
	self := of(0, []int{0}, []int{0})
	return []struct {
		name string
		g    api.Pairing
		e    api.Errno
	}{
		{"no kinds", with(0, long, api.Pair{}), api.ErrMany},
		{"kinds below 0", with(-1), api.ErrMany},
		{"the least kinds there are", with(math.MinInt), api.ErrMany},
		{"the most kinds there are", with(math.MaxInt), api.ErrMany},
		{"a kind too many", with(api.MaxKinds+1, api.Pair{}), api.ErrMany},
		{"a rule too many", with(1, slices.Repeat([]api.Pair{word}, api.MaxRules+1)...), api.ErrMany},
		{"an empty Left", with(1, noHead, long, of(0, nil, []int{-1})), api.ErrForm},
		{"an empty Right", with(1, noHead, long, of(0, []int{-1}, []int{})), api.ErrForm},
		{"a long Left", with(1, noHead, twice, of(0, fill(api.MaxBody+1, -1), []int{-1})), api.ErrLong},
		{"a long Right", with(1, noHead, twice, long), api.ErrLong},
		{"a head that is none", with(1, twice, self, noHead), api.ErrRange},
		{"a head below 0", with(1, twice, of(-1, []int{-1}, []int{-1})), api.ErrRange},
		{"the least head there is", with(1, of(math.MinInt, []int{-1}, []int{-1})), api.ErrRange},
		{"the greatest head there is", with(1, of(math.MaxInt, []int{-1}, []int{-1})), api.ErrRange},
		{"a kind that is none", with(1, twice, of(0, []int{-1, 1}, []int{0})), api.ErrRange},
		{"a word that is none", with(1, twice, of(0, []int{-api.MaxWord - 1}, []int{-1})), api.ErrRange},
		{"the least part of a Left there is", with(1, of(0, []int{math.MinInt}, []int{-1})), api.ErrRange},
		{"the greatest part of a Left there is", with(1, of(0, []int{math.MaxInt}, []int{0})), api.ErrRange},
		{"another word that is none", with(1, twice, of(0, []int{-1}, []int{-api.MaxWord - 1})), api.ErrRange},
		{"no number of a kind", with(5, twice, of(0, []int{-1}, []int{0})), api.ErrRange},
		{"no number of kinds that there are", with(5, twice, of(0, []int{4, 0}, []int{0, 2})), api.ErrRange},
		{"the least part of a Right there is", with(1, of(0, []int{-1}, []int{math.MinInt})), api.ErrRange},
		{"the greatest part of a Right there is", with(1, of(0, []int{0}, []int{math.MaxInt})), api.ErrRange},
		{"a kind twice", with(1, self, twice), api.ErrForm},
		{"a kind that is lacking", with(1, of(0, []int{-1, 0}, []int{-1})), api.ErrForm},
		{"a kind twice, another one not", with(1, of(0, []int{0, 0, 0}, []int{0, 2, 0})), api.ErrForm},
		{"the last kind is lacking", with(1, of(0, []int{0, 0, 0}, []int{0, 1})), api.ErrForm},
		{"the first kind is lacking", with(1, of(0, []int{0, 0, 0}, []int{1, 2})), api.ErrForm},
		{"back to itself", with(1, word, self), api.ErrForm},
		{"back to itself by a Left", with(1, of(0, []int{0}, []int{-1, 0})), api.ErrForm},
		{"back to itself by a Right", with(1, of(0, []int{-1, 0}, []int{0})), api.ErrForm},
		{"back by way of others, by Lefts", with(3, of(0, []int{1}, []int{0, -1}), of(1, []int{2}, []int{0}), of(2, []int{0}, []int{-1, 0})), api.ErrForm},
		{"back by way of others, by Rights", with(3, of(0, []int{-1, 1}, []int{0}), of(1, []int{2}, []int{0}), of(2, []int{0, -1, -1}, []int{0})), api.ErrForm},
		{"back where no tree comes", with(5, word, of(4, []int{-1, 3}, []int{0}), of(3, []int{4}, []int{0})), api.ErrForm},
	}
}

// fine pairings.
func fine() []api.Pairing {
	of := func(head int, left, right []int) api.Pair { return api.Pair{Head: head, Left: left, Right: right} }
	most := of(api.MaxKinds-1, []int{api.MaxKinds - 1, -api.MaxWord, 0, 1, 2, 3}, []int{4, 3, 2, 1, 0, -api.MaxWord})
	return []api.Pairing{
		{Kinds: 1},
		shift(),
		{Kinds: api.MaxKinds, Rules: slices.Repeat([]api.Pair{most}, api.MaxRules)},
		// There by a Left, and back by a Right: each way has words on either side.
		{Kinds: 2, Rules: []api.Pair{of(0, []int{1}, []int{0, -1}), of(1, []int{0, -1}, []int{0})}},
		{Kinds: 2, Rules: []api.Pair{of(0, []int{1}, []int{0}), of(0, []int{1}, []int{0}), of(1, []int{1, 1}, []int{1, 0})}},
	}
}

// M1, M2; P1: what Check tells is told first by Translate and Turn, and with an error nothing else.
func TestCheck(t *testing.T) {
	for _, w := range wrong() {
		if e := Check(w.g); e != w.e {
			t.Errorf("%s: %d, not %d", w.name, e, w.e)
		}
		for _, text := range [][]int{nil, {1}, {0}, fill(99, 1)} {
			if l, e := Translate(w.g, text); l != nil || e != w.e {
				t.Errorf("%s: %v %d, not %d", w.name, l, e, w.e)
			}
		}
		if g, e := Turn(w.g); g.Kinds != 0 || g.Rules != nil || e != w.e {
			t.Errorf("%s: %v %d, not %d", w.name, g, e, w.e)
		}
	}
	for _, g := range fine() {
		if e := Check(g); e != api.OK {
			t.Errorf("%v: %d", g, e)
		}
	}
}

// M1: kinds lead back to themselves by Lefts alone, or by Rights alone.
func TestCheckOfRings(t *testing.T) {
	d := draw(1)
	var seen both
	for range 10000 {
		g := d.drawn(4, 10, 2, 2)
		want := api.OK
		if slowRound(g) {
			want = api.ErrForm
		}
		if e := Check(g); e != want {
			t.Fatalf("%v: %d, not %d", g, e, want)
		}
		seen.add(want == api.OK)
	}
	seen.least(t, 1000)
}

// M2; P1
func TestTextErrors(t *testing.T) {
	for _, c := range []struct {
		text []int
		e    api.Errno
	}{
		{nil, api.ErrLong},
		{[]int{}, api.ErrLong},
		{fill(api.MaxSpoken+1, 0), api.ErrLong},
		{fill(1<<16, 1), api.ErrLong},
		{[]int{0}, api.ErrRange},
		{[]int{1, -1}, api.ErrRange},
		{[]int{1, api.MaxWord + 1, 1}, api.ErrRange},
		{[]int{math.MinInt}, api.ErrRange},
		{[]int{math.MaxInt}, api.ErrRange},
		{fill(api.MaxSpoken, api.MaxWord), api.OK},
		{[]int{1}, api.OK},
	} {
		if l, e := Translate(shift(), c.text); len(l) > 0 || e != c.e {
			t.Errorf("%v: %v %d, not %d", c.text, l, e, c.e)
		}
	}
}
