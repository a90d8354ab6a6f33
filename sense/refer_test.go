package sense

import (
	"math"
	"slices"
	"testing"

	"wordhoard/api"
)

// L4
func TestRefer(t *testing.T) {
	name, some, every, no, it := api.Mention{Kind: api.MentionName, Sort: 1}, api.Mention{Kind: api.MentionSome, Sort: 1}, api.Mention{Kind: api.MentionEvery, Sort: 1}, api.Mention{Kind: api.MentionNo, Sort: 1}, api.Mention{Kind: api.MentionIt, Sort: 1}
	third := api.Mention{Kind: api.MentionIt, Sort: 3}
	for _, c := range []struct {
		l    [][]api.Mention
		want [][]int
	}{
		{nil, nil},
		{[][]api.Mention{{}, {}}, [][]int{{}, {}}},
		{[][]api.Mention{{it, name, it}, {}, {it}}, [][]int{{-1, 1, 1}, {}, {1}}},
		{[][]api.Mention{{every, name}, {it}}, [][]int{{0, 1}, {1}}},
		{[][]api.Mention{{some, every, it}, {it}}, [][]int{{0, 1, 1}, {0}}},
		{[][]api.Mention{{no, some, it}, {it}, {some}, {it}}, [][]int{{0, 1, 1}, {-1}, {4}, {4}}},
		{[][]api.Mention{{name}, {no, it}, {it}}, [][]int{{0}, {1, 1}, {0}}},
		{[][]api.Mention{{name, {Kind: api.MentionSome, Sort: 3}}, {it, third}}, [][]int{{0, 1}, {0, 1}}},
		{[][]api.Mention{{{Kind: api.MentionEvery, Sort: 2}, some}, {it}}, [][]int{{0, 1}, {-1}}},
		{[][]api.Mention{{name}, {it}, {it}}, [][]int{{0}, {0}, {0}}},
	} {
		if got, e := Refer(c.l); e != api.OK || !slices.EqualFunc(got, c.want, slices.Equal[[]int]) {
			t.Errorf("%v: %v %d, not %v", c.l, got, e, c.want)
		}
	}
}

// L4, L5: against what is open, one by one; and what comes behind changes nothing.
func TestReferOfMany(t *testing.T) {
	d := draw(6)
	var seen both
	for i := range 10000 {
		l := d.mentions(20, 10, 1+i%3)
		got, e := Refer(l)
		if e != api.OK || !slices.EqualFunc(got, slowRefer(l), slices.Equal[[]int]) {
			t.Fatalf("%v: %v %d, not %v", l, got, e, slowRefer(l))
		}
		for _, line := range got {
			for _, who := range line {
				seen.add(who >= 0)
			}
		}
		if len(l) == 0 {
			continue
		}
		last := d.n(len(l))
		short := slices.Clone(l[:last+1])
		short[last] = short[last][:d.n(len(short[last])+1)]
		ahead, _ := Refer(short)
		for i, line := range ahead {
			if !slices.Equal(line, got[i][:len(line)]) {
				t.Fatalf("%v: %v, and %v of %v", l, got, ahead, short)
			}
		}
	}
	seen.least(t, 5000)
}

// L4; P1
func TestReferErrors(t *testing.T) {
	fine, noKind, noSort := api.Mention{Kind: 1, Sort: 1}, api.Mention{Kind: 6, Sort: 9}, api.Mention{Kind: 5, Sort: 4}
	one := func(kind, sort int) [][]api.Mention { return [][]api.Mention{{fine}, {fine, {Kind: kind, Sort: sort}}} }
	for i, c := range []struct {
		l [][]api.Mention
		e api.Errno
	}{
		{slices.Repeat([][]api.Mention{slices.Repeat([]api.Mention{{Kind: 5, Sort: 3}}, 10)}, 20), api.OK},
		{slices.Repeat([][]api.Mention{{noKind}}, 21), api.ErrMany},
		{make([][]api.Mention, 1<<16), api.ErrMany},
		{[][]api.Mention{{noKind}, slices.Repeat([]api.Mention{fine}, 11)}, api.ErrMany},
		{[][]api.Mention{make([]api.Mention, 10)}, api.ErrKind},
		{[][]api.Mention{{noKind, noSort}}, api.ErrKind},
		{[][]api.Mention{{noSort, noKind}}, api.ErrRange},
		{[][]api.Mention{{noSort}, {noKind}}, api.ErrRange},
		{[][]api.Mention{{fine}, {noKind}, {noSort}}, api.ErrKind},
		{one(0, 1), api.ErrKind},
		{one(-1, 0), api.ErrKind},
		{one(math.MinInt, 1), api.ErrKind},
		{one(math.MaxInt, 1), api.ErrKind},
		{one(1, 0), api.ErrRange},
		{one(5, -1), api.ErrRange},
		{one(2, 4), api.ErrRange},
		{one(3, math.MinInt), api.ErrRange},
		{one(4, math.MaxInt), api.ErrRange},
	} {
		got, e := Refer(c.l)
		if e != c.e || e != api.OK && got != nil {
			t.Errorf("%d: %v %d, not %d", i, got, e, c.e)
		}
	}
}
