package prove

import (
	"math"
	"slices"
	"testing"

	"wordhoard/api"
)

// given lines of all premises, in order.
func given(premises []api.Claim) []api.Line {
	var l []api.Line
	for i, p := range premises {
		l = append(l, api.Line{Rule: api.LineGiven, Claim: p, From: []int{i}})
	}
	return l
}

func isSound(t *testing.T, premises []api.Claim, l []api.Line) bool {
	t.Helper()
	ok, e := Sound(premises, l)
	if e != api.OK {
		t.Fatalf("%v %v: %d", premises, l, e)
	}
	return ok
}

// K2: each rule, of no claim, of each one, and of each two, about two nouns.
func TestRules(t *testing.T) {
	claims := allClaims(2)
	m := newInstances(2)
	right := map[int]int{}
	ask := func(rule int, of []api.Claim, from []int) {
		lines := append(given(of), api.Line{Rule: rule, From: from})
		for _, c := range claims {
			lines[len(of)].Claim = c
			want := m.has(rule, c, of)
			if ok := isSound(t, of, lines); ok != want {
				t.Fatalf("%v by %d of %v: %v", c, rule, of, ok)
			}
			if want {
				right[rule]++
			}
		}
	}
	for rule := api.LineSelf; rule <= api.LineClash+1; rule++ {
		ask(rule, nil, nil)
		for _, p := range claims {
			ask(rule, []api.Claim{p}, []int{0})
			for _, q := range claims {
				ask(rule, []api.Claim{p, q}, []int{0, 1})
			}
		}
	}
	// All A are A; A, B, C of four literals each; and so on. LineClash: all A are B, some A is -B, any of 32 claims.
	want := map[int]int{api.LineSelf: 4, api.LineChain: 64, api.LineTurn: 16, api.LineVoid: 16, api.LineFull: 16, api.LineSwap: 16, api.LineThere: 16, api.LineLead: 64, api.LineClash: 16 * 32}
	for rule, n := range want {
		if right[rule] != n {
			t.Errorf("rule %d: %d are right, not %d", rule, right[rule], n)
		}
	}
	if len(right) != len(want) {
		t.Errorf("%v", right)
	}
}

// K2: From has the claims in the order of the table, as many as it says, all of them ahead.
func TestSoundAsksFrom(t *testing.T) {
	premises := []api.Claim{all(1, 2), all(2, 3), some(4, 1), all(5, 5)}
	lines := given(premises)
	for _, x := range []struct {
		l    api.Line
		want bool
	}{
		{api.Line{Rule: api.LineChain, Claim: all(1, 3), From: []int{0, 1}}, true},
		{api.Line{Rule: api.LineChain, Claim: all(1, 3), From: []int{1, 0}}, false},
		{api.Line{Rule: api.LineChain, Claim: all(1, 3), From: []int{0}}, false},
		{api.Line{Rule: api.LineChain, Claim: all(1, 3)}, false},
		{api.Line{Rule: api.LineChain, Claim: all(1, 3), From: []int{0, 1, 1}}, false},
		{api.Line{Rule: api.LineChain, Claim: all(5, 5), From: []int{3, 3}}, true},
		{api.Line{Rule: api.LineChain, Claim: all(1, 2), From: []int{0, 4}}, false},
		{api.Line{Rule: api.LineChain, Claim: all(1, 3), From: []int{-4, 1}}, false},
		{api.Line{Rule: api.LineChain, Claim: all(1, 3), From: []int{0, math.MaxInt}}, false},
		{api.Line{Rule: api.LineChain, Claim: all(1, 3), From: []int{math.MinInt, 1}}, false},
		{api.Line{Rule: api.LineChain, Claim: all(1, 3), From: make([]int, 1<<20)}, false},
		{api.Line{Rule: api.LineLead, Claim: some(4, 2), From: []int{2, 0}}, true},
		{api.Line{Rule: api.LineLead, Claim: some(4, 2), From: []int{0, 2}}, false},
		{api.Line{Rule: api.LineTurn, Claim: all(-5, -5), From: []int{3}}, true},
		{api.Line{Rule: api.LineTurn, Claim: all(-5, -5), From: []int{4}}, false},
		{api.Line{Rule: api.LineTurn, Claim: all(-5, -5), From: []int{3, 3}}, false},
		{api.Line{Rule: api.LineTurn, Claim: all(-5, -5)}, false},
		{api.Line{Rule: api.LineSelf, Claim: all(6, 6)}, true},
		{api.Line{Rule: api.LineSelf, Claim: all(6, 6), From: []int{}}, true},
		{api.Line{Rule: api.LineSelf, Claim: all(6, 6), From: []int{0}}, false},
		{api.Line{Rule: api.LineSelf, Claim: some(6, 6)}, false},
		{api.Line{Rule: api.LineGiven, Claim: all(2, 3), From: []int{1}}, true},
		{api.Line{Rule: api.LineGiven, Claim: all(2, 3), From: []int{0}}, false},
		{api.Line{Rule: api.LineGiven, Claim: some(2, 3), From: []int{1}}, false},
		{api.Line{Rule: api.LineGiven, Claim: all(2, 3)}, false},
		{api.Line{Rule: api.LineGiven, Claim: all(2, 3), From: []int{1, 1}}, false},
		{api.Line{Rule: api.LineGiven, Claim: all(2, 3), From: []int{-1}}, false},
		{api.Line{Rule: api.LineGiven, Claim: all(2, 3), From: []int{4}}, false},
		{api.Line{Rule: api.LineGiven, Claim: all(2, 3), From: []int{math.MinInt}}, false},
		{api.Line{Rule: 0, Claim: all(6, 6)}, false},
		{api.Line{Rule: -1, Claim: all(6, 6)}, false},
		{api.Line{Rule: api.LineClash + 1, Claim: all(6, 6)}, false},
		{api.Line{Rule: math.MinInt, Claim: all(6, 6)}, false},
		{api.Line{Rule: math.MaxInt, Claim: all(6, 6)}, false},
	} {
		if ok := isSound(t, premises, append(slices.Clone(lines), x.l)); ok != x.want {
			t.Errorf("%d %v of %d numbers: %v", x.l.Rule, x.l.Claim, len(x.l.From), ok)
		}
	}
}

// K2: a line is asked of those ahead of it, not of itself nor of those behind, and one wrong line anywhere is enough.
func TestSoundAsksEachLine(t *testing.T) {
	self := api.Line{Rule: api.LineSelf, Claim: all(1, 1)}
	turn := func(c api.Claim, n int) api.Line {
		return api.Line{Rule: api.LineTurn, Claim: c, From: []int{n}}
	}
	for _, x := range []struct {
		l    []api.Line
		want bool
	}{
		{nil, true},
		{[]api.Line{}, true},
		{[]api.Line{self}, true},
		{[]api.Line{self, turn(all(-1, -1), 0)}, true},
		{[]api.Line{turn(all(-1, -1), 1), self}, false},
		{[]api.Line{turn(all(-1, -1), 1), turn(all(1, 1), 0)}, false},
		{[]api.Line{turn(all(1, -1), 0)}, false},
		{[]api.Line{{Claim: all(1, 1)}, self}, false},
		{[]api.Line{self, {Claim: all(1, 1)}, self}, false},
		{[]api.Line{self, self, {Claim: all(1, 1)}}, false},
	} {
		if ok := isSound(t, nil, x.l); ok != x.want {
			t.Errorf("%v: %v", x.l, ok)
		}
	}
}

// K2: arguments with something changed.
func TestSoundOfChangedArguments(t *testing.T) {
	d := draw(3)
	m := newInstances(api.MaxNouns)
	var seen both
	for range 20000 {
		premises := d.claims(1+d.n(6), 3)
		l, ok, _ := Argue(premises, d.claim(3))
		if !ok {
			continue
		}
		switch i := d.n(len(l)); d.n(5) {
		case 0:
			l[i].Rule = d.n(api.LineClash + 2)
		case 1:
			l[i].Claim = d.claim(3)
		case 2:
			l[i].From = append(l[i].From, d.n(len(l)))
		case 3:
			if len(l[i].From) > 0 {
				l[i].From[0] = d.n(len(l)+2) - 1
			}
		case 4:
			j := d.n(len(l))
			l[i], l[j] = l[j], l[i]
		}
		want := m.right(premises, l)
		if got := isSound(t, premises, l); got != want {
			t.Fatalf("%v %v: %v", premises, l, got)
		}
		seen.add(want)
	}
	seen.least(t, 500)
}

// K2, P1: too many of either ahead of all else; premises, in order, then the lines' claims, ahead of what is right.
func TestSoundErrors(t *testing.T) {
	selves := func(many int) []api.Line {
		return slices.Repeat([]api.Line{{Rule: api.LineSelf, Claim: all(1, 1)}}, many)
	}
	off := all(7, 1)
	claims := func(many int) []api.Claim { return slices.Repeat([]api.Claim{all(1, 2)}, many) }
	for i, x := range []struct {
		premises []api.Claim
		l        []api.Line
		ok       bool
		e        api.Errno
	}{
		{claims(api.MaxClaims), selves(api.MaxArgued), true, api.OK},
		{claims(api.MaxClaims + 1), nil, false, api.ErrMany},
		{make([]api.Claim, api.MaxClaims+1), selves(1), false, api.ErrMany},
		{nil, selves(api.MaxArgued + 1), false, api.ErrMany},
		{nil, make([]api.Line, api.MaxArgued+1), false, api.ErrMany},
		{[]api.Claim{off}, make([]api.Line, api.MaxArgued+1), false, api.ErrMany},
		{[]api.Claim{all(1, 1), off}, selves(1), false, api.ErrRange},
		{[]api.Claim{off}, nil, false, api.ErrRange},
		{nil, []api.Line{{Rule: 99, Claim: off}}, false, api.ErrRange},
		{nil, []api.Line{{Rule: 99, Claim: all(1, 1)}, {Rule: api.LineSelf, Claim: off}}, false, api.ErrRange},
		{nil, append(selves(3), api.Line{Rule: api.LineSelf}), false, api.ErrRange},
		{nil, []api.Line{{Rule: 99, Claim: all(1, 1)}}, false, api.OK},
	} {
		if ok, e := Sound(x.premises, x.l); ok != x.ok || e != x.e {
			t.Errorf("%d: %v %d, not %v %d", i, ok, e, x.ok, x.e)
		}
	}
	for _, c := range wrongClaims() {
		if ok, e := Sound([]api.Claim{c}, nil); ok || e != api.ErrRange {
			t.Errorf("%v: %v %d", c, ok, e)
		}
		if ok, e := Sound(nil, []api.Line{{Rule: api.LineSelf, Claim: c}}); ok || e != api.ErrRange {
			t.Errorf("%v: %v %d", c, ok, e)
		}
	}
}
