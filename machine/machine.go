// Package machine: what reads and writes, at a cost: see doc/02-machine.md.
package machine

import "wordhoard/api"

// Check tells what is wrong with a machine.
func Check(m api.Machine) api.Errno {
	if m.States < 1 || m.States > api.MaxStates || len(m.Arcs) > api.MaxArcs || len(m.Finals) > m.States {
		return api.ErrMany
	}
	for _, arc := range m.Arcs {
		if !arcFits(arc, m.States) {
			return api.ErrRange
		}
	}
	for _, final := range m.Finals {
		if !within(final.State, 0, m.States-1) || !within(final.W, 0, api.MaxCost) {
			return api.ErrRange
		}
	}
	ends := newSet(m.States)
	for _, final := range m.Finals {
		if !ends.add(final.State) {
			return api.ErrTwice
		}
	}
	return api.OK
}

// checkBoth tells what is wrong with a, or else with b.
func checkBoth(a, b api.Machine) api.Errno {
	if e := Check(a); e != api.OK {
		return e
	}
	return Check(b)
}

func arcFits(arc api.Arc, states int) bool {
	return within(arc.From, 0, states-1) && within(arc.To, 0, states-1) &&
		within(arc.In, 0, api.MaxSymbol) && within(arc.Out, 0, api.MaxSymbol) &&
		within(arc.W, 0, api.MaxCost)
}

func within(n, least, most int) bool { return n >= least && n <= most }

// areSymbols tells whether a text has only symbols (0, nothing, is none).
func areSymbols(text []int) bool {
	for _, symbol := range text {
		if !within(symbol, 1, api.MaxSymbol) {
			return false
		}
	}
	return true
}

// plain tells whether each arc writes what it reads, and nothing costs anything.
func plain(m api.Machine) bool {
	for _, arc := range m.Arcs {
		if arc.In != arc.Out || arc.W != 0 {
			return false
		}
	}
	for _, final := range m.Finals {
		if final.W != 0 {
			return false
		}
	}
	return true
}

// leaving has, for each state, the arcs that go from it.
func leaving(m api.Machine) [][]api.Arc {
	arcs := make([][]api.Arc, m.States)
	for _, arc := range m.Arcs {
		arcs[arc.From] = append(arcs[arc.From], arc)
	}
	return arcs
}

// arriving has, for each state, the arcs that go to it, each turned round, so
// that a search runs along them just as along the ones that leave.
func arriving(m api.Machine) [][]api.Arc {
	arcs := make([][]api.Arc, m.States)
	for _, arc := range m.Arcs {
		arc.From, arc.To = arc.To, arc.From
		arcs[arc.From] = append(arcs[arc.From], arc)
	}
	return arcs
}
