package pair

import (
	"math"
	"math/big"
	"slices"
	"strings"
	"testing"

	"wordhoard/api"
)

// M3; P1
func TestEven(t *testing.T) {
	for _, words := range []int{0, -1, api.MaxVoc + 1, math.MinInt, math.MaxInt} {
		if table, e := Even(words); table != nil || e != api.ErrMany {
			t.Errorf("%d: %v %d", words, table, e)
		}
	}
	for words := 1; words <= api.MaxVoc; words++ {
		want := slices.Repeat([][]string{slices.Repeat([]string{[]string{"", "1/1", "1/2", "1/3", "1/4"}[words]}, words)}, words)
		if table, e := Even(words); e != api.OK || !sameTables(table, want) {
			t.Errorf("%d: %v %d", words, table, e)
		}
	}
}

// M3, M4: by hand. Word 1 stands in From twice, and in To as well.
func TestByHand(t *testing.T) {
	table := [][]string{{"1/2", "1/2"}, {"1/3", "2/3"}}
	l := []api.Duo{{From: []int{1, 1, 2}, To: []int{1, 1}}}
	// Each 1 of To: 1/2 + 1/2 + 1/3 is 4/3, over 3 is 4/9.
	if p, e := Chance(l, table); p != "16/81" || e != api.OK {
		t.Errorf("%s %d", p, e)
	}
	if better, e := Better(l, table); e != api.OK || !sameTables(better, [][]string{{"1/1", "0/1"}, {"1/1", "0/1"}}) {
		t.Errorf("%v %d", better, e)
	}
	l = append(l, api.Duo{From: []int{1}, To: []int{2}})
	// Each 1 of To gives 3/8 to each of both 1, so that these have 3/2 of it, and 1 of 2.
	if better, e := Better(l, table); e != api.OK || !sameTables(better, [][]string{{"3/5", "2/5"}, {"1/1", "0/1"}}) {
		t.Errorf("%v %d", better, e)
	}
	// Nobody gives anything to 2: it does not stand there, or has nothing for what does.
	zero := [][]string{{"1/2", "1/2"}, {"0/1", "1/1"}}
	for _, l := range [][]api.Duo{{{From: []int{1}, To: []int{1}}}, {{From: []int{1, 2}, To: []int{1}}}} {
		if better, e := Better(l, zero); e != api.OK || !sameTables(better, [][]string{{"1/1", "0/1"}, {"0/1", "1/1"}}) {
			t.Errorf("%v: %v %d", l, better, e)
		}
	}
}

// M3, M4, M5: against fractions of the library, and never less probable.
func TestBetterIsBetter(t *testing.T) {
	d := draw(5)
	var none, moved both
	for range 3000 {
		words := 1 + d.n(api.MaxVoc)
		l := d.duos(1+d.n(api.MaxCorpus), words, api.MaxShort)
		table := d.table(words, []int{2, 4, 1000}[d.n(3)])
		want := slowChance(l, table)
		if p, e := Chance(l, table); p != want.String() || e != api.OK {
			t.Fatalf("%v by %v: %s %d, not %v", l, table, p, e, want)
		}
		better, e := Better(l, table)
		none.add(want.Sign() == 0)
		if want.Sign() == 0 {
			if better != nil || e != api.ErrNone {
				t.Fatalf("%v by %v: %v %d", l, table, better, e)
			}
			continue
		}
		if e != api.OK || !sameTables(better, slowBetter(l, table)) {
			t.Fatalf("%v by %v: %v %d, not %v", l, table, better, e, slowBetter(l, table))
		}
		after, e := Chance(l, better)
		if e != api.OK || ratOf(after).Cmp(want) < 0 {
			t.Fatalf("%v by %v: %s %d, and was %v", l, table, after, e, want)
		}
		moved.add(ratOf(after).Cmp(want) > 0)
	}
	none.least(t, 100)
	moved.least(t, 100)
}

// M5: better and better, with fractions that get long.
func TestBetterAgainAndAgain(t *testing.T) {
	d := draw(6)
	l := d.duos(api.MaxCorpus, api.MaxVoc, api.MaxShort)
	table, _ := Even(api.MaxVoc)
	last := new(big.Rat)
	for i := range 4 {
		p, e := Chance(l, table)
		if e != api.OK || ratOf(p).Cmp(last) <= 0 {
			t.Fatalf("%d times: %d, and it is not better", i, e)
		}
		last = ratOf(p)
		if i == 3 {
			break
		}
		want := slowBetter(l, table)
		if table, e = Better(l, table); e != api.OK || !sameTables(table, want) {
			t.Fatalf("%d times: %v %d", i, table, e)
		}
	}
	if len(table[0][0]) < 100 {
		t.Errorf("only %s", table[0][0])
	}
}

// M4; P1: each error for all, ahead of the next one.
func TestTableErrors(t *testing.T) {
	one, bad := api.Duo{From: []int{1}, To: []int{1}}, api.Duo{From: []int{3}, To: []int{0}}
	short, long := api.Duo{From: []int{3}}, api.Duo{From: []int{1}, To: make([]int, api.MaxShort+1)}
	even, two := [][]string{{"1/2", "1/2"}, {"1/2", "1/2"}}, []string{"1/2", "1/2"}
	off := []string{"1/2", "1/3"}
	for _, c := range []struct {
		name  string
		l     []api.Duo
		table [][]string
		e     api.Errno
	}{
		{"no duos", nil, even, api.ErrMany},
		{"nothing", nil, nil, api.ErrMany},
		{"a duo too many", slices.Repeat([]api.Duo{short}, api.MaxCorpus+1), even, api.ErrMany},
		{"very many duos", make([]api.Duo, 1<<16), even, api.ErrMany},
		{"an empty To", []api.Duo{bad, short}, nil, api.ErrLong},
		{"an empty From", []api.Duo{one, {To: []int{1}}}, nil, api.ErrLong},
		{"a long To", []api.Duo{long}, make([][]string, 9), api.ErrLong},
		{"a long From", []api.Duo{{From: make([]int, 1<<16), To: []int{1}}}, even, api.ErrLong},
		{"no rows", []api.Duo{bad}, nil, api.ErrMany},
		{"a row too many", []api.Duo{bad}, make([][]string, api.MaxVoc+1), api.ErrMany},
		{"an empty row", []api.Duo{bad}, [][]string{off, nil}, api.ErrForm},
		{"a place too few", []api.Duo{bad}, [][]string{off, {"1/1"}}, api.ErrForm},
		{"a place too many", []api.Duo{bad}, [][]string{{"1/2", "1/2", "0/1"}, off}, api.ErrForm},
		{"one row of two", []api.Duo{bad}, [][]string{two}, api.ErrForm},
		{"a row that is not 1", []api.Duo{one}, [][]string{two, off}, api.ErrRange},
		{"a row above 1", []api.Duo{one}, [][]string{{"1/2", "3/2"}, two}, api.ErrRange},
		{"a row of noughts", []api.Duo{one}, [][]string{two, {"0/1", "0/1"}}, api.ErrRange},
		{"a long word of From", []api.Duo{one, {From: []int{1, 3}, To: []int{1}}}, even, api.ErrRange},
		{"a long word of To", []api.Duo{one, {From: []int{1}, To: []int{1, 3}}}, even, api.ErrRange},
		{"a word of 0", []api.Duo{{From: []int{0}, To: []int{1}}}, even, api.ErrRange},
		{"a word below 0", []api.Duo{{From: []int{1}, To: []int{-1}}}, even, api.ErrRange},
		{"the least word there is", []api.Duo{{From: []int{math.MinInt}, To: []int{1}}}, even, api.ErrRange},
		{"the greatest word there is", []api.Duo{{From: []int{1}, To: []int{math.MaxInt}}}, even, api.ErrRange},
	} {
		p, e := Chance(c.l, c.table)
		better, f := Better(c.l, c.table)
		if e != c.e || f != c.e || p != "" || better != nil {
			t.Errorf("%s: %q %d and %v %d, not %d", c.name, p, e, better, f, c.e)
		}
	}
}

// M4: what is no fraction as chapter 7 has them.
func TestNoFractions(t *testing.T) {
	l := []api.Duo{{From: []int{9}, To: []int{9}}}
	for _, s := range []string{"", "1", "2/4", "0/2", "1/0", "0/0", "-1/2", "1/-2", "+1/2", "01/2", "1/02", "1/2 ", " 1/2", "1/2/1", "0.5", "1//2", "a/b", "\u0661/2", strings.Repeat("0", 1<<10) + "1/2"} {
		for _, table := range [][][]string{{{s, "1/2"}, {"1/2", "1/2"}}, {{"1/2", "1/3"}, {"1/2", s}}} {
			p, e := Chance(l, table)
			better, f := Better(l, table)
			if e != api.ErrForm || f != api.ErrForm || p != "" || better != nil {
				t.Errorf("%q: %q %d and %v %d", s, p, e, better, f)
			}
		}
	}
}

// M4: of Better alone it is an error that a duo's chance is 0.
func TestNoChance(t *testing.T) {
	table := [][]string{{"1/1", "0/1"}, {"1/2", "1/2"}}
	for _, l := range [][]api.Duo{
		{{From: []int{1}, To: []int{2}}},
		{{From: []int{1, 1}, To: []int{1, 2}}},
		{{From: []int{2}, To: []int{2}}, {From: []int{1}, To: []int{2}}},
	} {
		if p, e := Chance(l, table); p != "0/1" || e != api.OK {
			t.Errorf("%v: %s %d", l, p, e)
		}
		if better, e := Better(l, table); better != nil || e != api.ErrNone {
			t.Errorf("%v: %v %d", l, better, e)
		}
	}
	bad := []api.Duo{{From: []int{1}, To: []int{2}}, {From: []int{1}, To: []int{3}}}
	if _, e := Better(bad, table); e != api.ErrRange {
		t.Errorf("a word that is none stands ahead: %d", e)
	}
}

// M3, M4: fractions as long as one likes.
func TestLongFractions(t *testing.T) {
	most := new(big.Int).Exp(big.NewInt(10), big.NewInt(3000), nil)
	r := new(big.Rat).SetFrac(big.NewInt(7), most)
	rest := new(big.Rat).Sub(big.NewRat(1, 1), r)
	table := [][]string{{r.String(), rest.String()}, {rest.String(), r.String()}}
	l := []api.Duo{{From: []int{1, 2, 2}, To: []int{1, 2}}, {From: []int{2}, To: []int{2, 2, 1}}}
	if p, e := Chance(l, table); p != slowChance(l, table).String() || e != api.OK {
		t.Errorf("%d", e)
	}
	if better, e := Better(l, table); !sameTables(better, slowBetter(l, table)) || e != api.OK {
		t.Errorf("%d", e)
	}
}
