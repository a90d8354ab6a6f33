package heads

import "wordhoard/api"

// The ends of a piece, on one of which all others of it hang, going up.
const (
	onFirst = 0
	onLast  = 1
)

// pick is the best of something, and the place that makes it so.
type pick struct{ worth, at int }

// picks of the pieces of a text, by their ends (0 is one, too).
type picks [api.MaxHang + 1][api.MaxHang + 1]pick

// pieces by the end on which all hang (EISNER): in a bow its other end hangs
// right on that, and behind place at begins what hangs on the other end; a
// whole one has a bow between that end and place at, on which the rest hangs.
type pieces struct{ bows, wholes [2]picks }

// bestFlat tree: one of flat trees.
func bestFlat(score [][]int) []int {
	var p pieces
	words := len(score) - 1
	for long := 1; long <= words; long++ {
		for from := 0; from+long <= words; from++ {
			p.fill(score, from, from+long)
		}
	}
	up := make([]int, words)
	p.hangWhole(up, 0, words, onFirst)
	return up
}

// fill in a piece, when those that are shorter are known.
func (p *pieces) fill(score [][]int, from, to int) {
	bow := highestOf(from, to-1, func(at int) int {
		return p.wholes[onFirst][from][at].worth + p.wholes[onLast][at+1][to].worth
	})
	p.bows[onFirst][from][to] = pick{worth: bow.worth + score[from][to-1], at: bow.at}
	p.wholes[onFirst][from][to] = highestOf(from+1, to, func(at int) int {
		return p.bows[onFirst][from][at].worth + p.wholes[onFirst][at][to].worth
	})
	if from == 0 {
		return // it hangs on nothing
	}
	p.bows[onLast][from][to] = pick{worth: bow.worth + score[to][from-1], at: bow.at}
	p.wholes[onLast][from][to] = highestOf(from, to-1, func(at int) int {
		return p.wholes[onLast][from][at].worth + p.bows[onLast][at][to].worth
	})
}

// highestOf the places from low to high: the first one that is worth the most.
func highestOf(low, high int, worth func(at int) int) pick {
	most := pick{worth: worth(low), at: low}
	for at := low + 1; at <= high; at++ {
		if w := worth(at); w > most.worth {
			most = pick{worth: w, at: at}
		}
	}
	return most
}

// hangWhole puts into up what was picked for a whole piece.
func (p *pieces) hangWhole(up []int, from, to, end int) {
	if from == to {
		return
	}
	at := p.wholes[end][from][to].at
	if end == onFirst {
		p.hangBow(up, from, at, end)
		p.hangWhole(up, at, to, end)
	} else {
		p.hangWhole(up, from, at, end)
		p.hangBow(up, at, to, end)
	}
}

// hangBow puts into up what was picked for a bow.
func (p *pieces) hangBow(up []int, from, to, end int) {
	if end == onFirst {
		up[to-1] = from
	} else {
		up[from-1] = to
	}
	at := p.bows[end][from][to].at
	p.hangWhole(up, from, at, onFirst)
	p.hangWhole(up, at+1, to, onLast)
}
