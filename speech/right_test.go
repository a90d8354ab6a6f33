package speech

import (
	"math"
	"slices"
	"testing"

	"wordhoard/api"
)

// I2: one proof of each step, and what is wrong with others.
func TestRightByHand(t *testing.T) {
	a, b := same(base(0)), same(base(1))
	left := comes(api.StepOverLeft, b, a)[0]     // (a/b) b is a
	right := comes(api.StepUnderLeft, b, a)[0]   // b (b\a) is a
	overs := comes(api.StepOver, left)[0]        // (a/b) is (a/b)
	unders := comes(api.StepUnder, left)[0]      // b is ((a/b)\a)
	cut := comes(api.StepCut, left, a)[0]        // (a/b) b is a
	long := comes(api.StepOverLeft, b, right)[1] // b ((b\a)/b) b is a
	for _, p := range []api.Proof{a, left, right, overs, unders, cut, long, same(deep(api.MaxPart / 2))} {
		if ok, e := Right(p); !ok || e != api.OK {
			t.Errorf("%s: %v %d", slowRow(p.Left, p.Goal), ok, e)
		}
	}
	for _, c := range []struct {
		name string
		p    api.Proof
	}{
		{"another goal", api.Proof{Step: api.StepSame, Left: parts("a"), Goal: part("b")}},
		{"an empty left", api.Proof{Step: api.StepSame, Goal: part("a")}},
		{"two parts in the left", api.Proof{Step: api.StepSame, Left: parts("a", "a"), Goal: part("a")}},
		{"At of Same", api.Proof{Step: api.StepSame, Left: parts("a"), Goal: part("a"), At: 1}},
		{"N of Same", api.Proof{Step: api.StepSame, Left: parts("a"), Goal: part("a"), N: 1}},
		{"Same of a proof", api.Proof{Step: api.StepSame, Left: parts("a"), Goal: part("a"), Kids: []api.Proof{a}}},
		{"no step", api.Proof{Left: parts("a"), Goal: part("a")}},
		{"a step above", api.Proof{Step: api.StepCut + 1, Left: parts("a"), Goal: part("a")}},
		{"the least step there is", api.Proof{Step: math.MinInt, Left: parts("a"), Goal: part("a")}},
		{"Over of nothing", api.Proof{Step: api.StepOver, Left: parts("(a/b)"), Goal: part("(a/b)")}},
		{"Over of two", api.Proof{Step: api.StepOver, Left: overs.Left, Goal: overs.Goal, Kids: []api.Proof{left, left}}},
		{"Over whose goal is base", api.Proof{Step: api.StepOver, Left: parts("a"), Goal: part("a"), Kids: []api.Proof{left}}},
		{"Over with an Under", api.Proof{Step: api.StepOver, Left: unders.Left, Goal: unders.Goal, Kids: []api.Proof{left}}},
		{"Over with At", api.Proof{Step: api.StepOver, Left: overs.Left, Goal: overs.Goal, At: 1, Kids: overs.Kids}},
		{"Over with N", api.Proof{Step: api.StepOver, Left: overs.Left, Goal: overs.Goal, N: 1, Kids: overs.Kids}},
		{"Over that leaves nothing", api.Proof{Step: api.StepOver, Goal: part("(a/a)"), Kids: []api.Proof{a}}},
		{"Under that leaves nothing", api.Proof{Step: api.StepUnder, Goal: part(`(a\a)`), Kids: []api.Proof{a}}},
		{"Under with an Over", api.Proof{Step: api.StepUnder, Left: overs.Left, Goal: overs.Goal, Kids: []api.Proof{left}}},
		{"OverLeft of one", api.Proof{Step: api.StepOverLeft, Left: left.Left, Goal: left.Goal, At: 1, N: 1, Kids: left.Kids[:1]}},
		{"OverLeft of nothing", api.Proof{Step: api.StepOverLeft, Left: left.Left, Goal: left.Goal, At: 1, N: 1}},
		{"OverLeft the other way round", api.Proof{Step: api.StepOverLeft, Left: left.Left, Goal: left.Goal, At: 1, N: 1, Kids: []api.Proof{a, b}}},
		{"OverLeft that begins at 0", api.Proof{Step: api.StepOverLeft, Left: left.Left, Goal: left.Goal, N: 1, Kids: left.Kids}},
		{"OverLeft as UnderLeft", api.Proof{Step: api.StepUnderLeft, Left: left.Left, Goal: left.Goal, At: 1, N: 1, Kids: left.Kids}},
		{"UnderLeft as OverLeft", api.Proof{Step: api.StepOverLeft, Left: right.Left, Goal: right.Goal, N: 1, Kids: right.Kids}},
		{"UnderLeft with another goal", api.Proof{Step: api.StepUnderLeft, Left: right.Left, Goal: part("b"), N: 1, Kids: right.Kids}},
		{"UnderLeft of more", api.Proof{Step: api.StepUnderLeft, Left: right.Left, Goal: right.Goal, N: 2, Kids: right.Kids}},
		{"OverLeft of no parts", api.Proof{Step: api.StepOverLeft, Left: parts("(a/b)"), Goal: part("a"), At: 1, Kids: []api.Proof{{Step: api.StepSame, Goal: part("b")}, a}}},
		{"Cut of nothing", api.Proof{Step: api.StepCut, Left: parts("a"), Goal: part("a"), N: 1}},
		{"Cut of one", api.Proof{Step: api.StepCut, Left: parts("a"), Goal: part("a"), N: 1, Kids: []api.Proof{a}}},
		{"Cut of three", api.Proof{Step: api.StepCut, Left: parts("a"), Goal: part("a"), N: 1, Kids: []api.Proof{a, a, a}}},
		{"Cut through something else", api.Proof{Step: api.StepCut, Left: parts("a"), Goal: part("b"), N: 1, Kids: []api.Proof{a, b}}},
		{"Cut of no parts", api.Proof{Step: api.StepCut, Left: parts("b"), Goal: part("a"), Kids: []api.Proof{{Step: api.StepSame, Goal: part("(a/b)")}, left}}},
	} {
		if ok, e := Right(c.p); ok || e != api.OK {
			t.Errorf("%s: %v %d", c.name, ok, e)
		}
		if p, e := Cutless(c.p); !isNothing(p) || e != api.ErrForm {
			t.Errorf("%s: %v %d", c.name, p, e)
		}
	}
}

// I2, P1: At and N that are nowhere, the greatest and the least ones too.
func TestRightOfAnyPlaces(t *testing.T) {
	b := same(base(1))
	right := comes(api.StepUnderLeft, b, same(base(0)))[0]
	all := []api.Proof{
		comes(api.StepOverLeft, b, right)[1], // b ((b\a)/b) b is a
		comes(api.StepUnderLeft, b, right)[0],
		comes(api.StepCut, b, right)[0],
		comes(api.StepOver, right)[0],
		comes(api.StepUnder, right)[0],
		same(part(`(a\b)`)),
	}
	places := []int{math.MinInt, math.MinInt + 1, -2, -1, 0, 1, 2, 3, 4, 5, math.MaxInt - 1, math.MaxInt}
	for _, p := range all {
		found := 0
		for _, p.At = range places {
			for _, p.N = range places {
				ok, e := Right(p)
				if want := slowRight(p); ok != want || e != api.OK {
					t.Fatalf("%s by %d, %d and %d: %v %d", slowRow(p.Left, p.Goal), p.Step, p.At, p.N, ok, e)
				}
				if ok {
					found++
				}
			}
		}
		if found != 1 {
			t.Errorf("%s by %d: %d", slowRow(p.Left, p.Goal), p.Step, found)
		}
	}
}

// spoil changes something in a proof, which shares nothing with others.
func (d *draw) spoil(p *api.Proof) {
	for len(p.Kids) > 0 && d.n(3) > 0 {
		p = &p.Kids[d.n(len(p.Kids))]
	}
	at := d.n(len(p.Left))
	switch d.n(11) {
	case 0:
		p.Step = 1 + d.n(api.StepCut+1)
	case 1:
		p.At += d.n(3) - 1
	case 2:
		p.N += d.n(3) - 1
	case 3:
		p.Goal = d.part(d.n(3), 2)
	case 4:
		p.Left[at] = d.part(d.n(3), 2)
	case 5:
		p.Left = slices.Delete(p.Left, at, at+1)
	case 6:
		p.Left = slices.Insert(p.Left, at, d.part(d.n(2), 2))
	case 7:
		p.Left[0], p.Left[at] = p.Left[at], p.Left[0]
	case 8:
		slices.Reverse(p.Kids)
	case 9:
		p.Kids = append(p.Kids, same(d.part(0, 2)))
	case 10:
		p.Kids = p.Kids[:max(0, len(p.Kids)-1)]
	}
}

// I2: against all that comes of proofs by a step.
func TestRightAgainstAllThatComes(t *testing.T) {
	d := draw(1)
	yes, no := 0, 0
	for range 60 {
		for _, p := range d.proofs(120) {
			if ok, e := Right(p); !ok || e != api.OK {
				t.Fatalf("%v: %v %d", p, ok, e)
			}
			for range 4 {
				q := proofCopy(p)
				d.spoil(&q)
				want := slowRight(q)
				if ok, e := Right(q); ok != want || e != api.OK {
					t.Fatalf("%v: %v %d, not %v", q, ok, e, want)
				}
				if want {
					yes++
				} else {
					no++
				}
			}
		}
	}
	if yes < 1000 || no < 1000 {
		t.Errorf("only %d and %d", yes, no)
	}
}

// chain of cuts, which is right: so many steps, an odd number.
func chain(many int) api.Proof {
	p := same(base(0))
	for range many / 2 {
		p = comes(api.StepCut, same(base(0)), p)[0]
	}
	return p
}

// I2, P1: the errors, and which one comes first.
func TestRightErrors(t *testing.T) {
	a := same(base(0))
	none, far, full := api.Part{}, base(letters), api.Part{Kind: api.PartBase, Kids: parts("a")}
	with := func(kids ...api.Proof) api.Proof {
		return api.Proof{Step: api.StepCut, Left: parts("a"), Goal: part("a"), N: 1, Kids: kids}
	}
	row := func(many int, p api.Part) api.Proof {
		return api.Proof{Step: api.StepSame, Left: slices.Repeat([]api.Part{p}, many), Goal: base(0)}
	}
	round := api.Proof{Step: api.StepOver, Left: parts("a"), Goal: none, Kids: make([]api.Proof, 1)}
	round.Kids[0] = round
	doubled := a
	for range 60 {
		doubled = with(doubled, doubled)
	}
	line := func(many int, last api.Proof) api.Proof {
		for range many - 1 {
			last = api.Proof{Step: api.StepOver, Left: parts("a"), Goal: part("a"), Kids: []api.Proof{last}}
		}
		return last
	}
	for _, c := range []struct {
		name string
		p    api.Proof
		ok   bool
		e    api.Errno
	}{
		{"as many steps as may be, but one", chain(api.MaxProof - 1), true, api.OK},
		{"a step too many", chain(api.MaxProof + 1), false, api.ErrMany},
		{"as many steps as may be, wrong ones", line(api.MaxProof, a), false, api.OK},
		{"a step too many, wrong ones", line(api.MaxProof+1, a), false, api.ErrMany},
		{"as many steps as may be, with nothing", line(api.MaxProof, api.Proof{}), false, api.ErrKind},
		{"a step too many, with nothing", line(api.MaxProof+1, api.Proof{}), false, api.ErrMany},
		{"without end", round, false, api.ErrMany},
		{"twice and twice again", doubled, false, api.ErrMany},
		{"very deep", line(1<<16, a), false, api.ErrMany},
		{"very wide", with(make([]api.Proof, 1<<20)...), false, api.ErrMany},
		{"as many parts in a left as may be", row(api.MaxLeft, base(0)), false, api.OK},
		{"as many parts in a left as may be, great ones", row(api.MaxLeft, deep(api.MaxPart/2)), false, api.OK},
		{"a part too many in a left", row(api.MaxLeft+1, base(0)), false, api.ErrMany},
		{"a part too many in a left, of nothing", row(api.MaxLeft+1, none), false, api.ErrMany},
		{"a part too many in a left further in, ahead of wrong parts", with(row(1, none), with(a, row(api.MaxLeft+1, far))), false, api.ErrMany},
		{"very many parts in a left", row(1<<20, none), false, api.ErrMany},
		{"nothing", api.Proof{}, false, api.ErrKind},
		{"too great a part", row(1, deep(api.MaxPart/2+1)), false, api.ErrMany},
		{"an endless part", row(1, endless()), false, api.ErrMany},
		{"an endless goal", api.Proof{Step: api.StepSame, Left: parts("a"), Goal: endless()}, false, api.ErrMany},
		{"no part in a left", row(2, none), false, api.ErrKind},
		{"the first part ahead of the second", api.Proof{Left: []api.Part{far, none}, Goal: full}, false, api.ErrRange},
		{"the second part ahead of the goal", api.Proof{Left: []api.Part{base(0), full}, Goal: none}, false, api.ErrForm},
		{"the goal ahead of the kids", api.Proof{Left: parts("a"), Goal: far, Kids: []api.Proof{{}}}, false, api.ErrRange},
		{"the first kid ahead of the second", with(row(1, far), row(1, none)), false, api.ErrRange},
		{"within the first kid ahead of the second", with(with(a, row(1, full)), row(1, none)), false, api.ErrForm},
		{"a wrong part in a kid, ahead of a wrong step", api.Proof{Step: 9, Left: parts("a"), Goal: base(1), Kids: []api.Proof{a, row(1, far)}}, false, api.ErrRange},
		{"an empty left and a right goal", api.Proof{Step: api.StepSame, Goal: base(0)}, false, api.OK},
	} {
		ok, e := Right(c.p)
		if ok != c.ok || e != c.e {
			t.Errorf("%s: %v %d, not %v %d", c.name, ok, e, c.ok, c.e)
		}
		want := e
		if e == api.OK && !ok {
			want = api.ErrForm
		}
		if p, f := Cutless(c.p); f != want || f != api.OK && !isNothing(p) {
			t.Errorf("%s: %v %d, not %d", c.name, p, f, want)
		}
	}
}
