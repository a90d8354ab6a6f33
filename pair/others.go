package pair

import (
	"wordhoard/api"
	"wordhoard/span"
)

// piece of a text, and a kind that spans it.
type piece struct{ kind, from, to int }

// othersOf a text: the other texts of its trees of kind 0. No kind leads back to
// itself, so all ways down come to an end.
func othersOf(g api.Pairing, text []int) texts {
	known := map[piece]texts{}
	var ofKind func(p piece) texts
	var eachCut func(left []int, from, to int, below []texts, tell func(below []texts))
	ofKind = func(p piece) texts {
		all, there := known[p]
		if there {
			return all
		}
		for _, r := range g.Rules {
			if r.Head == p.kind {
				eachCut(r.Left, p.from, p.to, nil, func(below []texts) { all.putAll(woven(r.Right, below)) })
			}
		}
		known[p] = all
		return all
	}
	// Here left is what is left of a Left: below are the other texts of the kinds
	// ahead of it, to which those in it are added, one way after the other.
	eachCut = func(left []int, from, to int, below []texts, tell func(below []texts)) {
		if len(left) == 0 {
			tell(below)
			return
		}
		first, last := span.Ends(from, to, len(left)-1)
		for end := first; end <= last; end++ {
			if left[0] < 0 {
				if span.IsWord(text, left[0], from, end) {
					eachCut(left[1:], end, to, below, tell)
				}
			} else if here := ofKind(piece{kind: left[0], from: from, to: end}); !here.isNone() {
				eachCut(left[1:], end, to, append(below, here), tell)
			}
		}
	}
	return ofKind(piece{kind: 0, from: 0, to: len(text)})
}

// woven is a Right with the other texts of what stands below in its kinds' places.
func woven(right []int, below []texts) texts {
	all := one()
	for _, part := range right {
		if part < 0 {
			all = all.and(one(byte(-part)))
		} else {
			all = all.and(below[part])
		}
	}
	return all
}
