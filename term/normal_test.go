package term

import (
	"testing"

	"wordhoard/api"
)

// J4: against steps by names.
func TestNormal(t *testing.T) {
	d := draw(1)
	var seen [3]int
	for range 3000 {
		x := d.any()
		if d.n(12) == 0 {
			x = d.tower()
		}
		if termsOf(x) > api.MaxTerm {
			continue
		}
		want, steps, f := slowNormal(x)
		n, many, e := Normal(x)
		if e != f || many != steps || text(n) != text(want) {
			t.Fatalf("%s: %s %d %d, not %s %d %d", text(x), text(n), many, e, text(want), steps, f)
		}
		switch {
		case e != api.OK:
			seen[0]++
		case many > 2:
			seen[1]++
		default:
			seen[2]++
		}
	}
	if seen[0] < 20 || seen[1] < 1000 || seen[2] < 1000 {
		t.Errorf("only %v", seen)
	}
}

// times is the function that does something so many times.
func times(many int) api.Term {
	is := v(0)
	for range many {
		is = app(v(1), is)
	}
	return fn(to(base(0), base(0)), fn(base(0), is))
}

// tower of such functions, of which some take too many steps, or terms.
func (d *draw) tower() api.Term {
	t := self()
	for range 1 + d.n(4) {
		t = app(times(d.n(7)), t)
		if d.n(4) == 0 {
			t = app(times(2), times(d.n(5)))
		}
	}
	return app(t, con(0))
}

func self() api.Term { return fn(base(0), v(0)) }

// J4: just as many steps as there may be, and one more.
func TestNormalOfManySteps(t *testing.T) {
	x := app(app(times(5), app(times(5), app(times(5), self()))), con(0))
	// Each of the innermost ones takes two steps and five, each of the next ones two and five of these, and so on.
	steps := 2 + 5*(2+5*(2+5))
	for ; steps <= api.MaxSteps+2; steps++ {
		n, many, e := Normal(x)
		if steps <= api.MaxSteps && (text(n) != text(con(0)) || many != steps || e != api.OK) {
			t.Errorf("%s %d %d, not %d steps", text(n), many, e, steps)
		}
		if steps > api.MaxSteps && (!isNothing(n) || many != 0 || e != api.ErrMany) {
			t.Errorf("%s %d %d of %d steps", text(n), many, e, steps)
		}
		x = app(self(), x)
	}
}

// passing goes through a term of so many terms, and is a constant in the end.
func passing(vars, many, more int) api.Term {
	o := base(0)
	stuff := con(0)
	for range vars {
		stuff = app(v(more), stuff)
	}
	for range more {
		stuff = fn(o, stuff)
	}
	return app(fn(o, app(fn(o, con(7)), stuff)), sized(many))
}

// J4: just as many terms on the way as there may be, and one more.
func TestNormalOfManyTerms(t *testing.T) {
	for more := range 3 {
		x := passing(11, 35, more)
		if on := termsOf(slowStep(x, nil)); on != api.MaxTerm+more {
			t.Errorf("%d terms on the way", on)
		}
		n, many, e := Normal(x)
		if more == 0 && (text(n) != text(con(7)) || many != 2 || e != api.OK) {
			t.Errorf("%s %d %d", text(n), many, e)
		}
		if more > 0 && (!isNothing(n) || many != 0 || e != api.ErrMany) {
			t.Errorf("%s %d %d", text(n), many, e)
		}
	}
}

// J4: what has no end, of the same size or growing; and what is not needed may have none.
func TestNormalWithoutEnd(t *testing.T) {
	o := base(0)
	same := fn(o, app(v(0), v(0)))
	grow := fn(o, app(app(v(0), v(0)), v(0)))
	for _, x := range []api.Term{app(same, same), app(grow, grow), app(con(0), app(same, same)), fn(o, app(grow, grow))} {
		if n, many, e := Normal(x); !isNothing(n) || many != 0 || e != api.ErrMany {
			t.Errorf("%s: %s %d %d", text(x), text(n), many, e)
		}
	}
	n, many, e := Normal(app(fn(o, con(1)), app(same, same)))
	if text(n) != text(con(1)) || many != 1 || e != api.OK {
		t.Errorf("%s %d %d", text(n), many, e)
	}
}

// J4: a normal term has no spot, and is its own normal term, of no steps.
func TestNormalOfNormal(t *testing.T) {
	d := draw(2)
	for range 3000 {
		n, _, e := Normal(d.any())
		if e != api.OK {
			continue
		}
		l, e := Spots(n)
		again, many, f := Normal(n)
		if e != api.OK || f != api.OK || len(l) != 0 || many != 0 || text(again) != text(n) {
			t.Fatalf("%s: %v, %s %d", text(n), l, text(again), many)
		}
	}
}

// J5: whichever steps one makes, one comes to the same end.
func TestOneEnd(t *testing.T) {
	d := draw(3)
	ends, others := 0, 0
	for range 3000 {
		x := d.any()
		n, many, e := Normal(x)
		if e != api.OK || many < 2 {
			continue
		}
		for range 4 {
			end, steps, ok := d.walk(x)
			if !ok {
				continue
			}
			ends++
			if steps != many {
				others++
			}
			if text(end) != text(n) {
				t.Fatalf("%s: %s, not %s", text(x), text(end), text(n))
			}
		}
	}
	if ends < 2000 || others < 200 {
		t.Errorf("only %d, %d of them by other steps", ends, others)
	}
}

// walk makes a step at any spot till there is none; false: that has no end in sight.
func (d *draw) walk(t api.Term) (api.Term, int, bool) {
	for steps := range api.MaxSteps {
		l, e := Spots(t)
		if e != api.OK {
			break
		}
		if len(l) == 0 {
			return t, steps, true
		}
		if t, e = Step(t, l[d.n(len(l))]); e != api.OK {
			break
		}
	}
	return api.Term{}, 0, false
}

// J4: the document's example.
func TestExample(t *testing.T) {
	n, many, e := Normal(app(self(), con(3)))
	if text(n) != text(con(3)) || many != 1 || e != api.OK {
		t.Errorf("%s %d %d", text(n), many, e)
	}
}
