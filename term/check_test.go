package term

import (
	"math"
	"testing"

	"wordhoard/api"
)

type wrongType struct {
	name string
	t    api.Type
	e    api.Errno
}

// endlessType and endlessTerm stand in themselves.
func endlessType() api.Type {
	t := to(base(0), base(0))
	t.Kids[1] = t
	return t
}

func endlessTerm() api.Term {
	t := app(con(0), con(0))
	t.Kids[1] = t
	return t
}

// wrongTypes, and what is wrong with them.
func wrongTypes() []wrongType {
	a, none, far := base(0), api.Type{}, base(10)
	full := api.Type{Kind: api.TypeBase, Kids: []api.Type{a}}
	named := to(a, a)
	named.N = 1
	deepNone := deepType(api.MaxType / 2)
	deepNone.Kids[0] = none
	return []wrongType{
		{"nothing", none, api.ErrKind},
		{"a kind below", api.Type{Kind: -1}, api.ErrKind},
		{"a kind above", api.Type{Kind: api.TypeTo + 1, Kids: []api.Type{a, a}}, api.ErrKind},
		{"the least kind there is", api.Type{Kind: math.MinInt}, api.ErrKind},
		{"no kind ahead of all else", api.Type{N: 99, Kids: []api.Type{a}}, api.ErrKind},
		{"no kind, ahead of its kids", api.Type{Kids: []api.Type{far, full}}, api.ErrKind},
		{"a base one with a kid", full, api.ErrForm},
		{"a base one with a kid, ahead of its number", api.Type{Kind: api.TypeBase, N: 99, Kids: []api.Type{none}}, api.ErrForm},
		{"functions without kids", api.Type{Kind: api.TypeTo, N: 7}, api.ErrForm},
		{"functions with a kid", api.Type{Kind: api.TypeTo, Kids: []api.Type{none}}, api.ErrForm},
		{"functions with three kids", api.Type{Kind: api.TypeTo, Kids: []api.Type{a, none, a}}, api.ErrForm},
		{"a number too far", far, api.ErrRange},
		{"a number below", base(-1), api.ErrRange},
		{"the greatest number there is", base(math.MaxInt), api.ErrRange},
		{"the least number there is", base(math.MinInt), api.ErrRange},
		{"functions with a number", named, api.ErrRange},
		{"functions with a number, ahead of their kids", api.Type{Kind: api.TypeTo, N: -1, Kids: []api.Type{none, full}}, api.ErrRange},
		{"none as the first kid", to(none, full), api.ErrKind},
		{"none as the second kid", to(a, none), api.ErrKind},
		{"a full one as the first kid, ahead of the second", to(full, none), api.ErrForm},
		{"a far one as the first kid, ahead of the second", to(far, none), api.ErrRange},
		{"a far one in the first kid, ahead of the second", to(to(a, far), full), api.ErrRange},
		{"too many", deepType(api.MaxType / 2), api.ErrMany},
		{"too many, ahead of all else", deepNone, api.ErrMany},
		{"too many in a base one", api.Type{Kind: api.TypeBase, Kids: make([]api.Type, 1<<20)}, api.ErrMany},
		{"too many in nothing", api.Type{Kids: make([]api.Type, api.MaxType)}, api.ErrMany},
		{"just as many as may be, in nothing", api.Type{Kids: make([]api.Type, api.MaxType-1)}, api.ErrKind},
		{"just as many as may be, in functions", api.Type{Kind: api.TypeTo, Kids: make([]api.Type, api.MaxType-1)}, api.ErrForm},
		{"without end", endlessType(), api.ErrMany},
		{"very deep", deepType(1 << 15), api.ErrMany},
	}
}

// J1, P1
func TestCheckType(t *testing.T) {
	for _, w := range wrongTypes() {
		if e := CheckType(w.t); e != w.e {
			t.Errorf("%s: %d, not %d", w.name, e, w.e)
		}
		if e := Check(fn(w.t, v(0))); e != w.e {
			t.Errorf("a function of %s: %d, not %d", w.name, e, w.e)
		}
	}
	for _, x := range []api.Type{base(0), base(9), deepType(api.MaxType/2 - 1), {Kind: api.TypeBase, Kids: []api.Type{}}, to(to(base(1), base(2)), to(base(3), base(9)))} {
		if e := CheckType(x); e != api.OK {
			t.Errorf("%v: %d", x, e)
		}
	}
}

type wrongTerm struct {
	name string
	t    api.Term
	e    api.Errno
}

// wrongTerms, and what is wrong with them.
func wrongTerms() []wrongTerm {
	a, none, far := v(0), api.Term{}, v(-1)
	o := base(0)
	full := api.Term{Kind: api.TermVar, Kids: []api.Term{a}}
	odd := base(10)
	deepNone := deepTerm(api.MaxTerm / 2)
	deepNone.Kids[0] = none
	return []wrongTerm{
		{"nothing", none, api.ErrKind},
		{"a kind below", api.Term{Kind: -1}, api.ErrKind},
		{"a kind above", api.Term{Kind: api.TermApp + 1, Kids: []api.Term{a, a}}, api.ErrKind},
		{"the least kind there is", api.Term{Kind: math.MinInt}, api.ErrKind},
		{"no kind ahead of all else", api.Term{N: -9, Type: odd, Kids: []api.Term{a}}, api.ErrKind},
		{"no kind, ahead of its kids", api.Term{Kids: []api.Term{far, full}}, api.ErrKind},
		{"a variable with a kid", full, api.ErrForm},
		{"a variable with a kid, ahead of its number", api.Term{Kind: api.TermVar, N: -1, Kids: []api.Term{none}}, api.ErrForm},
		{"a constant with a kid, ahead of its type", api.Term{Kind: api.TermCon, Type: o, Kids: []api.Term{a}}, api.ErrForm},
		{"a function without kids, ahead of all else", api.Term{Kind: api.TermFn, N: 1}, api.ErrForm},
		{"a function with two kids", api.Term{Kind: api.TermFn, Type: o, Kids: []api.Term{none, a}}, api.ErrForm},
		{"an application without kids", api.Term{Kind: api.TermApp, Type: o}, api.ErrForm},
		{"an application with a kid", api.Term{Kind: api.TermApp, Kids: []api.Term{a}}, api.ErrForm},
		{"an application with three kids", api.Term{Kind: api.TermApp, Kids: []api.Term{a, none, a}}, api.ErrForm},
		{"a variable below", far, api.ErrRange},
		{"the least variable there is", v(math.MinInt), api.ErrRange},
		{"a constant below", con(-1), api.ErrRange},
		{"the least constant there is", con(math.MinInt), api.ErrRange},
		{"a function with a number, ahead of its type", api.Term{Kind: api.TermFn, N: 1, Type: api.Type{}, Kids: []api.Term{none}}, api.ErrRange},
		{"a function with a number below", api.Term{Kind: api.TermFn, N: -1, Type: o, Kids: []api.Term{a}}, api.ErrRange},
		{"an application with a number", api.Term{Kind: api.TermApp, N: 1, Kids: []api.Term{none, a}}, api.ErrRange},
		{"an application with a number below", api.Term{Kind: api.TermApp, N: -1, Kids: []api.Term{a, a}}, api.ErrRange},
		{"a variable with a type", api.Term{Kind: api.TermVar, Type: o}, api.ErrRange},
		{"a constant with a type", api.Term{Kind: api.TermCon, Type: o}, api.ErrRange},
		{"an application with a type", api.Term{Kind: api.TermApp, Type: o, Kids: []api.Term{none, none}}, api.ErrRange},
		{"a variable with a type that has but a number", api.Term{Kind: api.TermVar, Type: api.Type{N: 1}}, api.ErrRange},
		{"a constant with a type that has but kids", api.Term{Kind: api.TermCon, Type: api.Type{Kids: []api.Type{o}}}, api.ErrRange},
		{"a constant with a type of another kind", api.Term{Kind: api.TermCon, Type: api.Type{Kind: 77}}, api.ErrRange},
		{"a variable with a type without end", api.Term{Kind: api.TermVar, Type: endlessType()}, api.ErrRange},
		{"a function without a type", api.Term{Kind: api.TermFn, Kids: []api.Term{a}}, api.ErrKind},
		{"a function without a type, ahead of its kid", api.Term{Kind: api.TermFn, Kids: []api.Term{far}}, api.ErrKind},
		{"a function with a far type, ahead of its kid", fn(odd, none), api.ErrRange},
		{"a function with too great a type, ahead of its kid", fn(deepType(api.MaxType/2), none), api.ErrMany},
		{"a wrong kid ahead of a function with too great a type", app(none, fn(deepType(api.MaxType/2), a)), api.ErrKind},
		{"none in a function", fn(o, none), api.ErrKind},
		{"none as the first kid", app(none, full), api.ErrKind},
		{"none as the second kid", app(a, none), api.ErrKind},
		{"a full one as the first kid, ahead of the second", app(full, none), api.ErrForm},
		{"a far one as the first kid, ahead of the second", app(far, none), api.ErrRange},
		{"a far one in the first kid, ahead of the second", app(fn(o, far), full), api.ErrRange},
		{"too many", deepTerm(api.MaxTerm / 2), api.ErrMany},
		{"too many, ahead of all else", deepNone, api.ErrMany},
		{"too many in a variable", api.Term{Kind: api.TermVar, Kids: make([]api.Term, 1<<20)}, api.ErrMany},
		{"too many in nothing", api.Term{Kids: make([]api.Term, api.MaxTerm)}, api.ErrMany},
		{"just as many as may be, in nothing", api.Term{Kids: make([]api.Term, api.MaxTerm-1)}, api.ErrKind},
		{"just as many as may be, in a function", api.Term{Kind: api.TermFn, Kids: make([]api.Term, api.MaxTerm-1)}, api.ErrForm},
		{"without end", endlessTerm(), api.ErrMany},
		{"very deep", deepTerm(1 << 15), api.ErrMany},
	}
}

// J1, J4, P1: all calls tell first what Check says.
func TestCheck(t *testing.T) {
	for _, w := range wrongTerms() {
		if e := Check(w.t); e != w.e {
			t.Errorf("%s: %d, not %d", w.name, e, w.e)
		}
		if x, e := TypeOf(w.t, nil); e != w.e || !isNoType(x) {
			t.Errorf("the type of %s: %v %d, not %d", w.name, x, e, w.e)
		}
		if l, e := Spots(w.t); e != w.e || len(l) != 0 {
			t.Errorf("the spots of %s: %v %d, not %d", w.name, l, e, w.e)
		}
		if x, n, e := Normal(w.t); e != w.e || n != 0 || !isNothing(x) {
			t.Errorf("%s, normal: %v %d %d, not %d", w.name, x, n, e, w.e)
		}
		for _, way := range [][]int{nil, {0}, {1}, {-1}} {
			if x, e := Step(w.t, way); e != w.e || !isNothing(x) {
				t.Errorf("%s at %v: %v %d, not %d", w.name, way, x, e, w.e)
			}
		}
	}
	just := fn(base(0), deepTerm(api.MaxTerm/2-1)) // 400 of them
	if termsOf(just) != api.MaxTerm {
		t.Errorf("%d", termsOf(just))
	}
	roomy := api.Term{Kind: api.TermVar, Type: api.Type{Kids: []api.Type{}}, Kids: []api.Term{}}
	for _, x := range []api.Term{v(0), v(math.MaxInt), con(0), con(math.MaxInt), just, roomy, fn(deepType(api.MaxType/2-1), v(7)), app(v(1), con(2))} {
		if e := Check(x); e != api.OK {
			t.Errorf("%s: %d", text(x), e)
		}
	}
}
