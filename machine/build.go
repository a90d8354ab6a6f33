package machine

import "wordhoard/api"

// Either has the walks of both.
func Either(a, b api.Machine) (api.Machine, api.Errno) {
	if e := checkBoth(a, b); e != api.OK {
		return api.Machine{}, e
	}
	// A state of its own ahead of both, as arcs may lead back to their first ones.
	m := api.Machine{States: 1 + a.States + b.States}
	m.Arcs = append(m.Arcs, api.Arc{From: 0, To: 1}, api.Arc{From: 0, To: 1 + a.States})
	m.Arcs = append(m.Arcs, movedArcs(a, 1)...)
	m.Arcs = append(m.Arcs, movedArcs(b, 1+a.States)...)
	m.Finals = append(movedFinals(a, 1), movedFinals(b, 1+a.States)...)
	return ifFew(m)
}

// Chain has walks of a, and of b behind them.
func Chain(a, b api.Machine) (api.Machine, api.Errno) {
	if e := checkBoth(a, b); e != api.OK {
		return api.Machine{}, e
	}
	m := api.Machine{States: a.States + b.States}
	m.Arcs = append(movedArcs(a, 0), movedArcs(b, a.States)...)
	for _, final := range a.Finals {
		m.Arcs = append(m.Arcs, api.Arc{From: final.State, To: a.States, W: final.W})
	}
	m.Finals = movedFinals(b, a.States)
	return ifFew(m)
}

// Repeat has any number of walks one behind the other.
func Repeat(a api.Machine) (api.Machine, api.Errno) {
	if e := Check(a); e != api.OK {
		return api.Machine{}, e
	}
	// Between two walks is a state of its own: to end in a's first state may cost something, or not be allowed.
	m := api.Machine{States: 1 + a.States, Finals: []api.Final{{}}}
	m.Arcs = append(movedArcs(a, 1), api.Arc{From: 0, To: 1})
	for _, final := range a.Finals {
		m.Arcs = append(m.Arcs, api.Arc{From: 1 + final.State, To: 0, W: final.W})
	}
	return ifFew(m)
}

// Turn reads what a writes.
func Turn(a api.Machine) (api.Machine, api.Errno) {
	if e := Check(a); e != api.OK {
		return api.Machine{}, e
	}
	m := api.Machine{States: a.States, Arcs: movedArcs(a, 0), Finals: movedFinals(a, 0)}
	for i, arc := range m.Arcs {
		m.Arcs[i].In, m.Arcs[i].Out = arc.Out, arc.In
	}
	return m, api.OK
}

// Side writes what it reads.
func Side(a api.Machine) (api.Machine, api.Errno) {
	if e := Check(a); e != api.OK {
		return api.Machine{}, e
	}
	m := api.Machine{States: a.States, Arcs: movedArcs(a, 0), Finals: movedFinals(a, 0)}
	for i, arc := range m.Arcs {
		m.Arcs[i].Out = arc.In
	}
	return m, api.OK
}

// movedArcs are a machine's arcs where its states have numbers that are so much higher.
func movedArcs(m api.Machine, by int) []api.Arc {
	var arcs []api.Arc
	for _, arc := range m.Arcs {
		arc.From += by
		arc.To += by
		arcs = append(arcs, arc)
	}
	return arcs
}

func movedFinals(m api.Machine, by int) []api.Final {
	var finals []api.Final
	for _, final := range m.Finals {
		finals = append(finals, api.Final{State: final.State + by, W: final.W})
	}
	return finals
}

// ifFew is a machine that was built, if it has not too many states or arcs.
func ifFew(m api.Machine) (api.Machine, api.Errno) {
	if m.States > api.MaxStates || len(m.Arcs) > api.MaxArcs {
		return api.Machine{}, api.ErrMany
	}
	return m, api.OK
}
