package term

import (
	"math"
	"slices"
	"testing"

	"wordhoard/api"
)

// J2: terms that were made to be of a type.
func TestTypeOfTyped(t *testing.T) {
	d := draw(1)
	for range 5000 {
		want := d.kind(3)
		x := d.typed(want, nil, d.n(6))
		if termsOf(x) > api.MaxTerm {
			continue
		}
		is, e := TypeOf(x, constants())
		if e != api.OK || typeText(is) != typeText(want) {
			t.Fatalf("%s: %s %d, not %s", text(x), typeText(is), e, typeText(want))
		}
	}
}

// J2: all kinds of terms, by names.
func TestTypeOf(t *testing.T) {
	d := draw(2)
	seen := map[api.Errno]int{}
	for range 10000 {
		x := d.any()
		if termsOf(x) > api.MaxTerm {
			continue
		}
		want, f := slowTypeOf(x, constants())
		is, e := TypeOf(x, constants())
		if e != f || typeText(is) != typeText(want) {
			t.Fatalf("%s: %s %d, not %s %d", text(x), typeText(is), e, typeText(want), f)
		}
		seen[e]++
	}
	for _, e := range []api.Errno{api.OK, api.ErrName, api.ErrType, api.ErrMany} {
		if seen[e] < 50 {
			t.Errorf("only %v", seen)
		}
	}
}

// J2: of which error is told, in which order.
func TestTypeOfErrors(t *testing.T) {
	a, b := base(0), base(1)
	great, wide := deepType(api.MaxType/2-1), deepType(api.MaxType/2-2) // 59 and 57 of them
	cons := []api.Type{a, to(a, b), great, wide}
	free, none := v(0), con(4)
	off := app(con(0), con(0)) // what is applied is no function
	many := fn(a, con(2))      // a function to a type that is great already
	for i, x := range []struct {
		t    api.Term
		cons []api.Type
		e    api.Errno
	}{
		{con(0), make([]api.Type, 21), api.ErrMany},
		{con(0), slices.Repeat([]api.Type{a}, 21), api.ErrMany},
		{api.Term{}, slices.Repeat([]api.Type{a}, 21), api.ErrMany},
		{con(19), slices.Repeat([]api.Type{a}, 20), api.OK},
		{con(20), slices.Repeat([]api.Type{a}, 20), api.ErrName},
		{con(0), []api.Type{a, base(10), {}}, api.ErrRange},
		{con(0), []api.Type{a, {}, base(10)}, api.ErrKind},
		{api.Term{}, []api.Type{a, base(-1)}, api.ErrRange},
		{api.Term{}, []api.Type{deepType(api.MaxType / 2)}, api.ErrMany},
		{api.Term{Kind: api.TermVar, N: -1}, cons, api.ErrRange},
		{app(free, api.Term{}), cons, api.ErrKind},
		{con(0), nil, api.ErrName},
		{con(math.MaxInt), cons, api.ErrName},
		{free, cons, api.ErrName},
		{v(math.MaxInt), cons, api.ErrName},
		{none, cons, api.ErrName},
		{fn(a, v(0)), cons, api.OK},
		{fn(a, v(1)), cons, api.ErrName},
		{fn(a, fn(b, v(1))), cons, api.OK},
		{fn(a, fn(b, v(2))), cons, api.ErrName},
		{fn(a, app(fn(b, v(0)), v(1))), cons, api.ErrName},
		{off, cons, api.ErrType},
		{app(con(1), con(0)), cons, api.OK},
		{app(con(1), app(con(1), con(0))), cons, api.ErrType},
		{app(con(1), con(1)), cons, api.ErrType},
		{fn(to(a, a), app(v(0), v(0))), cons, api.ErrType},
		{app(free, off), cons, api.ErrName},
		{app(off, free), cons, api.ErrType},
		{app(con(0), free), cons, api.ErrName},
		{app(con(0), off), cons, api.ErrType},
		{app(con(0), many), cons, api.ErrMany},
		{app(many, free), cons, api.ErrMany},
		{app(free, many), cons, api.ErrName},
		{app(many, off), cons, api.ErrMany},
		{app(off, many), cons, api.ErrType},
		{many, cons, api.ErrMany},
		{fn(great, con(0)), cons, api.ErrMany},
		{fn(great, free), cons, api.ErrMany},
		{fn(great, v(1)), cons, api.ErrName},
		{fn(a, con(3)), cons, api.OK},
		{fn(wide, con(0)), cons, api.OK},
		{fn(a, fn(a, con(3))), cons, api.ErrMany},
		{fn(great, off), cons, api.ErrType},
		{app(fn(a, many), free), cons, api.ErrMany},
	} {
		is, e := TypeOf(x.t, x.cons)
		if e != x.e || e != api.OK && !isNoType(is) {
			t.Errorf("%d: %v %d, not %d", i, is, e, x.e)
		}
	}
	for _, w := range wrongTypes() {
		if is, e := TypeOf(api.Term{}, []api.Type{a, w.t}); e != w.e || !isNoType(is) {
			t.Errorf("%s: %v %d, not %d", w.name, is, e, w.e)
		}
	}
}

// J2: types with and without room for no kids are the same.
func TestTypeOfEmptyKids(t *testing.T) {
	empty := api.Type{Kind: api.TypeBase, Kids: []api.Type{}}
	is, e := TypeOf(app(fn(empty, v(0)), con(0)), []api.Type{base(0)})
	if e != api.OK || typeText(is) != typeText(base(0)) {
		t.Errorf("%v %d", is, e)
	}
}

// J5: a step keeps a term's type, and so does the normal term.
func TestStepsKeepTypes(t *testing.T) {
	d := draw(3)
	made := 0
	for range 3000 {
		want := d.kind(2)
		x := d.typed(want, nil, 2+d.n(4))
		l, e := Spots(x)
		if e != api.OK {
			continue
		}
		for _, way := range l {
			y, e := Step(x, way)
			if e != api.OK {
				continue
			}
			made++
			if is, e := TypeOf(y, constants()); e != api.OK || typeText(is) != typeText(want) {
				t.Fatalf("%s at %v: %s of %s %d", text(x), way, text(y), typeText(is), e)
			}
		}
		y, _, e := Normal(x)
		if is, f := TypeOf(y, constants()); e == api.OK && (f != api.OK || typeText(is) != typeText(want)) {
			t.Fatalf("%s: %s of %s %d", text(x), text(y), typeText(is), f)
		}
	}
	if made < 3000 {
		t.Errorf("only %d", made)
	}
}
