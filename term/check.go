package term

import (
	"wordhoard/api"
	"wordhoard/nest"
)

// bases is how many base types there are.
const bases = 10

// maxCons is how many constants may have types.
const maxCons = 20

func typesIn(t api.Type) []api.Type { return t.Kids }

func termsIn(t api.Term) []api.Term { return t.Kids }

// isMany tells whether too many terms stand in one another.
func isMany(t api.Term) bool { return nest.Count(t, termsIn, api.MaxTerm) > api.MaxTerm }

// wrongWithType tells what is wrong with a type, but for those in it.
func wrongWithType(t api.Type) api.Errno {
	kids, most := 0, 0
	switch t.Kind {
	case api.TypeBase:
		most = bases - 1
	case api.TypeTo:
		kids = 2
	default:
		return api.ErrKind
	}
	switch {
	case len(t.Kids) != kids:
		return api.ErrForm
	case t.N < 0, t.N > most:
		return api.ErrRange
	}
	return api.OK
}

// wrongWith tells what is wrong with a term, but for those in it.
func wrongWith(t api.Term) api.Errno {
	kids, hasN := 0, true
	switch t.Kind {
	case api.TermVar, api.TermCon:
	case api.TermFn:
		kids, hasN = 1, false
	case api.TermApp:
		kids, hasN = 2, false
	default:
		return api.ErrKind
	}
	switch {
	case len(t.Kids) != kids:
		return api.ErrForm
	case t.N < 0, t.N > 0 && !hasN, t.Kind != api.TermFn && !isNoType(t.Type):
		return api.ErrRange
	case t.Kind == api.TermFn:
		return CheckType(t.Type)
	}
	return api.OK
}

func isNoType(t api.Type) bool { return t.Kind == 0 && t.N == 0 && len(t.Kids) == 0 }

// checkCons tells what is wrong with the types of constants.
func checkCons(cons []api.Type) api.Errno {
	if len(cons) > maxCons {
		return api.ErrMany
	}
	for _, t := range cons {
		if e := CheckType(t); e != api.OK {
			return e
		}
	}
	return api.OK
}
