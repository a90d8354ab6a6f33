package term

import (
	"fmt"
	"math"
	"slices"
	"testing"

	"wordhoard/api"
)

// J3: all spots, in order, and a step at each of them, by names.
func TestSpotsAndStep(t *testing.T) {
	d := draw(1)
	var seen [3]int
	for range 3000 {
		x := d.any()
		if termsOf(x) > api.MaxTerm {
			continue
		}
		l, e := Spots(x)
		if want := slowSpots(x); e != api.OK || fmt.Sprint(l) != fmt.Sprint(want) {
			t.Fatalf("%s: %v %d, not %v", text(x), l, e, want)
		}
		for _, way := range slowWays(x, nil) {
			y, e := Step(x, way)
			if !slices.ContainsFunc(l, func(w []int) bool { return slices.Equal(w, way) }) {
				seen[0]++
				if e != api.ErrNone || !isNothing(y) {
					t.Fatalf("%s at %v: %s %d", text(x), way, text(y), e)
				}
				continue
			}
			want := slowStep(x, way)
			if termsOf(want) > api.MaxTerm {
				seen[1]++
				if e != api.ErrMany || !isNothing(y) {
					t.Fatalf("%s at %v: %s %d", text(x), way, text(y), e)
				}
				continue
			}
			seen[2]++
			if e != api.OK || text(y) != text(want) {
				t.Fatalf("%s at %v: %s %d, not %s", text(x), way, text(y), e, text(want))
			}
		}
	}
	if seen[0] < 10000 || seen[2] < 3000 {
		t.Errorf("only %v", seen)
	}
}

// J3: the other variables mean what they meant.
func TestStepOfVariables(t *testing.T) {
	o := base(0)
	for _, x := range []struct{ t, want api.Term }{
		{app(fn(o, v(0)), v(3)), v(3)},
		{app(fn(o, v(1)), v(3)), v(0)},
		{app(fn(o, v(7)), v(3)), v(6)},
		{app(fn(o, fn(o, v(0))), v(3)), fn(o, v(0))},
		{app(fn(o, fn(o, v(1))), v(0)), fn(o, v(1))},
		{app(fn(o, fn(o, v(2))), v(3)), fn(o, v(1))},
		{app(fn(o, fn(o, v(1))), fn(o, app(v(0), v(1)))), fn(o, fn(o, app(v(0), v(2))))},
		{app(fn(o, app(v(0), fn(o, app(v(1), v(2))))), v(5)), app(v(5), fn(o, app(v(6), v(1))))},
	} {
		if y, e := Step(x.t, nil); e != api.OK || text(y) != text(x.want) {
			t.Errorf("%s: %s %d, not %s", text(x.t), text(y), e, text(x.want))
		}
		if y, e := Step(fn(o, app(v(0), x.t)), []int{0, 1}); e != api.OK || text(y) != text(fn(o, app(v(0), x.want))) {
			t.Errorf("%s within: %s %d, not %s", text(x.t), text(y), e, text(x.want))
		}
	}
}

// J3, P1: ways that lead nowhere, or to no spot, also where there would be too many terms.
func TestStepOfNoSpot(t *testing.T) {
	o := base(0)
	spot := app(fn(o, v(0)), con(0))
	for _, x := range []api.Term{v(0), con(0), fn(o, v(0)), app(con(0), fn(o, v(0))), app(con(0), spot), fn(o, spot), grown(40, 40)} {
		for _, way := range [][]int{{0, 0, 0, 0}, {2}, {-1}, {math.MaxInt}, {math.MinInt}, {1, 1, 1, 1}, {0, 1, 0}, {1, -1}, {1, 2}, make([]int, 1<<20)} {
			if y, e := Step(x, way); e != api.ErrNone || !isNothing(y) {
				t.Errorf("%s at %.20v: %s %d", text(x), way, text(y), e)
			}
		}
	}
	if y, e := Step(app(con(0), spot), nil); e != api.ErrNone || !isNothing(y) {
		t.Errorf("%s %d", text(y), e)
	}
	if y, e := Step(fn(o, spot), []int{0}); e != api.OK || text(y) != text(fn(o, con(0))) {
		t.Errorf("%s %d", text(y), e)
	}
}

// grown has so many variables in a function, and is applied to a term of so many terms.
func grown(vars, many int) api.Term {
	is := con(0)
	for range vars {
		is = app(v(0), is)
	}
	return app(fn(base(0), is), sized(many))
}

// sized is a term of so many terms, without a spot.
func sized(many int) api.Term {
	t := deepTerm((many - 1) / 2)
	if many%2 == 0 {
		t = fn(base(1), t)
	}
	return t
}

// J3: just as many terms as there may be, and one more. Vars variables become
// so many terms of many terms, and there are as many applications, and a constant.
func TestStepOfMany(t *testing.T) {
	for _, x := range []struct {
		t    api.Term
		many int
	}{
		{grown(19, 20), api.MaxTerm},
		{grown(21, 18), api.MaxTerm},
		{app(fn(base(0), fn(base(0), replaced(grown(19, 20)))), sized(20)), api.MaxTerm + 1},
		{grown(20, 19), api.MaxTerm + 1},
		{grown(100, 190), api.MaxTerm + 1},
	} {
		y, e := Step(x.t, nil)
		switch {
		case x.many <= api.MaxTerm && (e != api.OK || termsOf(y) != x.many):
			t.Errorf("%d terms, not %d; %d", termsOf(y), x.many, e)
		case x.many > api.MaxTerm && (e != api.ErrMany || !isNothing(y)):
			t.Errorf("%d terms; %d", termsOf(y), e)
		}
		if z, n, e := Normal(x.t); x.many > api.MaxTerm && (e != api.ErrMany || n != 0 || !isNothing(z)) {
			t.Errorf("%d terms, %d steps; %d", termsOf(z), n, e)
		}
	}
}

// replaced is what the function of a spot is, within one more function.
func replaced(t api.Term) api.Term {
	return withVars(t.Kids[0].Kids[0], 0, func(n, around int) api.Term { return v(n + 1) })
}

// J3: a free variable whose number is near the greatest one.
func TestStepOfGreatNumbers(t *testing.T) {
	o := base(0)
	const most = math.MaxInt
	deeper := func(n int) api.Term { return app(fn(o, fn(o, v(1))), v(n)) }
	for _, x := range []struct {
		t, want api.Term
		e       api.Errno
	}{
		{app(fn(o, v(0)), v(most)), v(most), api.OK},
		{app(fn(o, v(most)), con(0)), v(most - 1), api.OK},
		{app(fn(o, con(1)), v(most)), con(1), api.OK},
		{app(fn(o, fn(o, v(0))), v(most)), fn(o, v(0)), api.OK},
		{deeper(most - 1), fn(o, v(most)), api.OK},
		{deeper(most), api.Term{}, api.ErrRange},
	} {
		if y, e := Step(x.t, nil); e != x.e || text(y) != text(x.want) {
			t.Errorf("%s: %s %d", text(x.t), text(y), e)
		}
		n, steps, e := Normal(x.t)
		if e != x.e || text(n) != text(x.want) || e == api.OK && steps != 1 || e != api.OK && steps != 0 {
			t.Errorf("%s: %s %d %d", text(x.t), text(n), steps, e)
		}
	}
	// It is above all numbers only on the way.
	n, steps, e := Normal(app(deeper(most), con(3)))
	if e != api.OK || text(n) != text(v(most)) || steps != 2 {
		t.Errorf("%s %d %d", text(n), steps, e)
	}
}
