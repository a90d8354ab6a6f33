package machine

import (
	"iter"
	"slices"

	"wordhoard/api"
)

// Through reads what a reads, and writes what b writes of it.
func Through(a, b api.Machine) (api.Machine, api.Errno) {
	if e := checkBoth(a, b); e != api.OK {
		return api.Machine{}, e
	}
	on := newCouple(leaving(cheapest(a)), leaving(cheapest(b)))
	useful := usefulPairs(a, b, on)
	pairs := slices.Collect(useful.members())
	if len(pairs) > api.MaxStates {
		return api.Machine{}, api.ErrMany
	}
	m := api.Machine{States: len(pairs), Arcs: jointArcs(on, useful, pairs)}
	if len(m.Arcs) > api.MaxArcs {
		return api.Machine{}, api.ErrMany
	}
	m.Finals = jointFinals(a, b, pairs)
	if Check(m) != api.OK { // only costs can still be wrong
		return api.Machine{}, api.ErrRange
	}
	return m, api.OK
}

// cheapest is a machine that has of all arcs that differ in nothing but their
// cost only the cheapest one.
func cheapest(m api.Machine) api.Machine {
	var l arcList
	for _, arc := range m.Arcs {
		l.put(arc)
	}
	return api.Machine{States: m.States, Arcs: l.arcs, Finals: m.Finals}
}

// An arcList has each arc once, for the least cost for which it was put.
type arcList struct {
	arcs []api.Arc
	at   map[api.Arc]int // by the arc without its cost
}

func (l *arcList) put(arc api.Arc) {
	if l.at == nil {
		l.at = map[api.Arc]int{}
	}
	name := arc
	name.W = 0
	at, ok := l.at[name]
	if !ok {
		l.at[name] = len(l.arcs)
		l.arcs = append(l.arcs, arc)
	} else {
		l.arcs[at].W = min(l.arcs[at].W, arc.W)
	}
}

// symbols is how many an arc may read or write, nothing counted too.
const symbols = api.MaxSymbol + 1

// A couple is two machines of which the second one reads what the first one
// writes. The number of a pair of states p of the first and q of the second
// one is p*states + q, where the second one has so many states.
type couple struct {
	states int
	first  [][]api.Arc // by the state they leave
	groups [][]api.Arc // of the second one: those of one state that read the same; group 0 is empty
	group  []int       // of a state q and what is read there: at q*symbols + that
}

func newCouple(first, second [][]api.Arc) *couple {
	c := &couple{len(second), first, make([][]api.Arc, 1), make([]int, len(second)*symbols)}
	for q, arcs := range second {
		for _, arc := range arcs {
			at := q*symbols + arc.In
			if c.group[at] == 0 {
				c.group[at] = len(c.groups)
				c.groups = append(c.groups, nil)
			}
			c.groups[c.group[at]] = append(c.groups[c.group[at]], arc)
		}
	}
	return c
}

// groupOf is the number of the group that reads a symbol (or nothing) in q.
func (c *couple) groupOf(q, symbol int) int { return c.group[q*symbols+symbol] }

// arcs that lead on from a pair: one machine waits while the first one writes
// nothing or the second one reads nothing; else both go.
func (c *couple) arcs(pair int) iter.Seq[api.Arc] {
	p, q := pair/c.states, pair%c.states
	return func(yield func(api.Arc) bool) {
		for _, x := range c.first[p] {
			if x.Out == 0 {
				if !yield(api.Arc{From: pair, To: x.To*c.states + q, In: x.In, W: x.W}) {
					return
				}
				continue
			}
			for _, y := range c.groups[c.groupOf(q, x.Out)] {
				if !yield(api.Arc{From: pair, To: x.To*c.states + y.To, In: x.In, Out: y.Out, W: x.W + y.W}) {
					return
				}
			}
		}
		for _, y := range c.groups[c.groupOf(q, 0)] {
			if !yield(api.Arc{From: pair, To: p*c.states + y.To, Out: y.Out, W: y.W}) {
				return
			}
		}
	}
}

// A search goes along a couple's arcs from pairs to pairs.
type search struct {
	met   set
	count int
	todo  []int
}

func (s *search) visit(pair int) {
	if s.met.add(pair) {
		s.count++
		s.todo = append(s.todo, pair)
	}
}

// reach is all pairs that one comes to from some through pairs that allowed
// has; it may stop when these are more than most.
//
// What the second machine does with a symbol hangs only on where the first one
// has gone and on that symbol, not on where the first one came from: halfway
// has what was done, so that not each two arcs need be held together.
func (c *couple) reach(from []int, allowed func(pair int) bool, most int) set {
	s := &search{met: newSet(len(c.first) * c.states)}
	halfway := newSet(len(c.first) * len(c.groups))
	visit := func(p, q int) {
		if allowed(p*c.states + q) {
			s.visit(p*c.states + q)
		}
	}
	for _, pair := range from {
		s.visit(pair)
	}
	for len(s.todo) > 0 && s.count <= most {
		pair := s.todo[len(s.todo)-1]
		s.todo = s.todo[:len(s.todo)-1]
		p, q := pair/c.states, pair%c.states
		for _, x := range c.first[p] {
			if x.Out == 0 {
				visit(x.To, q)
				continue
			}
			group := c.groupOf(q, x.Out)
			if !halfway.add(x.To*len(c.groups) + group) {
				continue
			}
			for _, y := range c.groups[group] {
				visit(x.To, y.To)
			}
		}
		for _, y := range c.groups[c.groupOf(q, 0)] {
			visit(p, y.To)
		}
	}
	return s.met
}

// usefulPairs are the first one, and those through which a walk can go (if
// they are too many for a machine, too many of them).
func usefulPairs(a, b api.Machine, on *couple) set {
	var ends []int
	for _, x := range a.Finals {
		for _, y := range b.Finals {
			ends = append(ends, x.State*b.States+y.State)
		}
	}
	back := newCouple(arriving(a), arriving(b))
	all := func(int) bool { return true }
	leads := back.reach(ends, all, a.States*b.States)
	return on.reach([]int{0}, leads.has, api.MaxStates)
}

// jointArcs are the arcs between useful pairs, numbered as they stand in
// pairs; if there are too many, not all of them.
func jointArcs(on *couple, useful set, pairs []int) []api.Arc {
	number := map[int]int{}
	for at, pair := range pairs {
		number[pair] = at
	}
	var l arcList
	for at, pair := range pairs {
		for arc := range on.arcs(pair) {
			if !useful.has(arc.To) {
				continue
			}
			arc.From, arc.To = at, number[arc.To]
			l.put(arc)
			if len(l.arcs) > api.MaxArcs {
				return l.arcs
			}
		}
	}
	return l.arcs
}

// jointFinals are the pairs where both machines end.
func jointFinals(a, b api.Machine, pairs []int) []api.Final {
	var finals []api.Final
	first, second := endCosts(a), endCosts(b)
	for at, pair := range pairs {
		x, y := first[pair/b.States], second[pair%b.States]
		if x != far && y != far {
			finals = append(finals, api.Final{State: at, W: x + y})
		}
	}
	return finals
}

// endCosts has what it costs to end in each state.
func endCosts(m api.Machine) []int {
	costs := nowhere(m.States)
	for _, final := range m.Finals {
		costs[final.State] = final.W
	}
	return costs
}
