package machine

import (
	"slices"

	"wordhoard/api"
)

// Apart is the first text that one machine reads and the other one does not.
func Apart(a, b api.Machine) ([]int, bool, api.Errno) {
	if e := checkBoth(a, b); e != api.OK {
		return nil, false, e
	}
	if !plain(a) || !plain(b) {
		return nil, false, api.ErrKind
	}
	first, e := newTable(a)
	if e != api.OK {
		return nil, false, e
	}
	second, e := newTable(b)
	if e != api.OK {
		return nil, false, e
	}
	text, ok := firstApart(first, second)
	return text, ok, api.OK
}

// A duo is where two tables stand after the same text: a row of each, or nowhereOn.
type duo struct{ first, second int }

// A visit is a duo that was come to, from which visit, and by what symbol.
type visit struct {
	duo
	from, symbol int
}

// firstApart goes to all duos, by texts that get longer, those of one length in
// order: so the first duo of which just one ends there has the first text.
func firstApart(first, second *table) ([]int, bool) {
	visits := []visit{{}}
	met := map[duo]int{{}: 0}
	for at := 0; at < len(visits); at++ {
		here := visits[at].duo
		if first.ends(here.first) != second.ends(here.second) {
			return textTo(visits, at), true
		}
		for symbol := 1; symbol <= api.MaxSymbol; symbol++ {
			to := duo{first.next(here.first, symbol), second.next(here.second, symbol)}
			if _, ok := met[to]; !ok {
				met[to] = len(visits)
				visits = append(visits, visit{to, at, symbol})
			}
		}
	}
	return nil, false
}

// textTo is the text by which a visit was come to.
func textTo(visits []visit, at int) []int {
	var text []int
	for ; at > 0; at = visits[at].from {
		text = append(text, visits[at].symbol)
	}
	slices.Reverse(text)
	return text
}

func (t *table) ends(at int) bool { return at != nowhereOn && t.rows[at].final }

func (t *table) next(at, symbol int) int {
	if at == nowhereOn {
		return nowhereOn
	}
	return t.rows[at].next[symbol]
}
