package term

import (
	"slices"

	"wordhoard/api"
)

// typeOf a term within functions whose variables are of the types around, that of the next one last.
func typeOf(t api.Term, around, cons []api.Type) (api.Type, api.Errno) {
	switch t.Kind {
	case api.TermVar:
		if t.N >= len(around) {
			return api.Type{}, api.ErrName
		}
		return around[len(around)-1-t.N], api.OK
	case api.TermCon:
		if t.N >= len(cons) {
			return api.Type{}, api.ErrName
		}
		return cons[t.N], api.OK
	case api.TermFn:
		return typeOfFn(t, around, cons)
	}
	return typeOfApp(t, around, cons)
}

func typeOfFn(t api.Term, around, cons []api.Type) (api.Type, api.Errno) {
	to, e := typeOf(t.Kids[0], append(around, t.Type), cons)
	if e != api.OK {
		return api.Type{}, e
	}
	is := api.Type{Kind: api.TypeTo, Kids: []api.Type{t.Type, to}}
	return is, CheckType(is)
}

func typeOfApp(t api.Term, around, cons []api.Type) (api.Type, api.Errno) {
	what, e := typeOf(t.Kids[0], around, cons)
	if e != api.OK {
		return api.Type{}, e
	}
	on, e := typeOf(t.Kids[1], around, cons)
	if e != api.OK {
		return api.Type{}, e
	}
	if what.Kind != api.TypeTo || !isSame(what.Kids[0], on) {
		return api.Type{}, api.ErrType
	}
	return what.Kids[1], api.OK
}

func isSame(t, u api.Type) bool {
	return t.Kind == u.Kind && t.N == u.N && slices.EqualFunc(t.Kids, u.Kids, isSame)
}

// typeCopy shares nothing with a type, nor within itself.
func typeCopy(t api.Type) api.Type {
	other := api.Type{Kind: t.Kind, N: t.N}
	for _, kid := range t.Kids {
		other.Kids = append(other.Kids, typeCopy(kid))
	}
	return other
}
