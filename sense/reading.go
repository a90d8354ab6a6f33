package sense

import (
	"slices"

	"wordhoard/api"
)

// people of whom something is said, place by place.
type people [maxPlaces]int

// with one more in a place.
func (p people) with(place, who int) people {
	p[place] = who
	return p
}

// level of a reading: a place, and those who are what its phrase says, rising.
type level struct {
	place, quant int
	all          []int
}

// reading of a saying: its levels from the outermost one on.
type reading struct {
	verb   api.Verb
	levels []level
}

// readingOf what there is nothing wrong with.
func readingOf(s api.Scene, t api.Saying, order []int) reading {
	r := reading{verb: s.Verbs[t.Verb]}
	for _, place := range order {
		phrase := t.Phrases[place]
		r.levels = append(r.levels, level{place: place, quant: phrase.Quant, all: individuals(s.Nouns[phrase.Noun], s.Size)})
	}
	return r
}

// individuals that are a noun.
func individuals(noun, size int) []int {
	var all []int
	for who := range size {
		if noun>>who&1 == 1 {
			all = append(all, who)
		}
	}
	return all
}

func (r reading) holds() bool { return r.holdsOf(0, people{}) }

// holdsOf tells whether the levels from one on hold of those in the places ahead of it.
func (r reading) holdsOf(at int, p people) bool {
	if at == len(r.levels) {
		return r.isSaid(p)
	}
	l := r.levels[at]
	rest := func(who int) bool { return r.holdsOf(at+1, p.with(l.place, who)) }
	switch l.quant {
	case api.QuantEvery:
		return !slices.ContainsFunc(l.all, func(who int) bool { return !rest(who) })
	case api.QuantSome:
		return slices.ContainsFunc(l.all, rest)
	}
	return !slices.ContainsFunc(l.all, rest)
}

// isSaid tells whether the verb holds of those in all its places.
func (r reading) isSaid(p people) bool {
	return slices.ContainsFunc(r.verb.Of, func(list []int) bool { return slices.Equal(list, p[:r.verb.Places]) })
}

// ordersOf so many places, as lists are compared.
func ordersOf(places int) [][]int {
	orders := [][]int{nil}
	for range places {
		var longer [][]int
		for _, order := range orders {
			for place := range places {
				if !slices.Contains(order, place) {
					longer = append(longer, append(slices.Clone(order), place))
				}
			}
		}
		orders = longer
	}
	return orders
}

// lookAtEach order, all of them at the same time, and tell of each whether the
// saying holds in it. Each has its own place to tell that, and nobody reads
// there before all are done.
func lookAtEach(s api.Scene, t api.Saying, orders [][]int) []bool {
	holds := make([]bool, len(orders))
	done := make(chan int)
	for i, order := range orders {
		go func() {
			holds[i] = readingOf(s, t, order).holds()
			done <- i
		}()
	}
	for range orders {
		<-done
	}
	return holds
}
