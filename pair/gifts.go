package pair

import (
	"slices"

	"wordhoard/api"
	"wordhoard/numbers"
)

// gifts to a word of From: what each word of To gave to it, all over the same.
type gifts struct {
	tops []numbers.Whole
	over numbers.Whole
}

// givenTo a word of From, by duos of which no chance is 0.
func (o odds) givenTo(from int, l []api.Duo) gifts {
	g := gifts{tops: make([]numbers.Whole, len(o.tops)), over: numbers.Of(1)}
	for _, d := range l {
		if !slices.Contains(d.From, from) {
			continue
		}
		for _, to := range d.To {
			gift := numbers.Part(o.of(from, to), o.ofWords(d.From, to))
			for _, word := range d.From {
				if word == from {
					g.add(to, gift)
				}
			}
		}
	}
	return g
}

// add what a word of To gives.
func (g *gifts) add(to int, gift numbers.Fraction) {
	over := numbers.Least(g.over, gift.Bottom)
	more, _ := over.Over(g.over)
	for i, top := range g.tops {
		g.tops[i] = top.Times(more)
	}
	times, _ := over.Over(gift.Bottom)
	g.tops[to-1] = g.tops[to-1].Plus(gift.Top.Times(times))
	g.over = over
}

// shares of all gifts together; the old ones, if there are none.
func (g gifts) shares(old []string) []string {
	all := sum(g.tops)
	if all.IsZero() {
		return append([]string(nil), old...)
	}
	var shares []string
	for _, top := range g.tops {
		shares = append(shares, numbers.Part(top, all).Text())
	}
	return shares
}
