package machine

import "wordhoard/api"

// Sure is the small sure machine.
func Sure(a api.Machine) (api.Machine, api.Errno) {
	if e := Check(a); e != api.OK {
		return api.Machine{}, e
	}
	if !plain(a) {
		return api.Machine{}, api.ErrKind
	}
	t, e := newTable(a)
	if e != api.OK {
		return api.Machine{}, e
	}
	t.dropDead()
	if t.rows[0].dead {
		return api.Machine{States: 1}, api.OK
	}
	return t.joined(t.classes()), api.OK
}

// nowhereOn is where a row leads by a symbol that is not read there.
const nowhereOn = -1

// A row of a table: where each symbol leads (that of 0, nothing, stays nowhereOn).
type row struct {
	next        [api.MaxSymbol + 1]int
	final, dead bool
}

// A table is a sure machine, not yet a small one: a row for each set of states.
type table struct{ rows []row }

// newTable goes from sets of states to sets of states of a plain machine.
func newTable(m api.Machine) (*table, api.Errno) {
	arcs := leaving(m)
	first := newSet(m.States)
	first.add(0)
	closeSet(arcs, first)
	sets := []set{first}
	met := map[string]int{first.key(): 0}
	t := &table{}
	for at := 0; at < len(sets); at++ {
		line := row{final: endsIn(m, sets[at])}
		for symbol, to := range read(arcs, sets[at]) {
			line.next[symbol] = nowhereOn
			if to == nil {
				continue
			}
			closeSet(arcs, to)
			key := to.key()
			number, ok := met[key]
			if !ok {
				number = len(sets)
				if number == api.MaxSets {
					return nil, api.ErrMany
				}
				met[key] = number
				sets = append(sets, to)
			}
			line.next[symbol] = number
		}
		t.rows = append(t.rows, line)
	}
	return t, api.OK
}

// closeSet adds to a set the states to which arcs that read nothing lead.
func closeSet(arcs [][]api.Arc, s set) {
	var states []int
	for state := range s.members() {
		states = append(states, state)
	}
	for len(states) > 0 {
		state := states[len(states)-1]
		states = states[:len(states)-1]
		for _, arc := range arcs[state] {
			if arc.In == 0 && s.add(arc.To) {
				states = append(states, arc.To)
			}
		}
	}
}

// read has, by symbols, the states to which arcs lead from a set that read one.
func read(arcs [][]api.Arc, s set) [api.MaxSymbol + 1]set {
	var to [api.MaxSymbol + 1]set
	for state := range s.members() {
		for _, arc := range arcs[state] {
			if arc.In == 0 {
				continue
			}
			if to[arc.In] == nil {
				to[arc.In] = newSet(len(arcs))
			}
			to[arc.In].add(arc.To)
		}
	}
	return to
}

func endsIn(m api.Machine, s set) bool {
	for _, final := range m.Finals {
		if s.has(final.State) {
			return true
		}
	}
	return false
}

// dropDead finds the rows from which no final one is come to, and takes away
// what leads to them.
func (t *table) dropDead() {
	from := make([][]int, len(t.rows))
	var live []int
	for at := range t.rows {
		t.rows[at].dead = !t.rows[at].final
		if t.rows[at].final {
			live = append(live, at)
		}
		for _, to := range t.rows[at].next {
			if to != nowhereOn {
				from[to] = append(from[to], at)
			}
		}
	}
	for len(live) > 0 {
		at := live[len(live)-1]
		live = live[:len(live)-1]
		for _, ahead := range from[at] {
			if t.rows[ahead].dead {
				t.rows[ahead].dead = false
				live = append(live, ahead)
			}
		}
	}
	for at := range t.rows {
		for symbol, to := range t.rows[at].next {
			if to != nowhereOn && t.rows[to].dead {
				t.rows[at].next[symbol] = nowhereOn
			}
		}
	}
}

// classes are numbers that two rows share just if they would read the same
// from there on. Rows are told apart by ever longer texts, until that tells
// no more of them apart (Moore).
func (t *table) classes() []int {
	class := make([]int, len(t.rows))
	count := 1
	for {
		finer := make([]int, len(t.rows))
		met := map[row]int{}
		for at, line := range t.rows {
			for symbol, to := range line.next {
				if to != nowhereOn {
					line.next[symbol] = class[to]
				}
			}
			number, ok := met[line]
			if !ok {
				number = len(met)
				met[line] = number
			}
			finer[at] = number
		}
		if len(met) == count {
			return class
		}
		class, count = finer, len(met)
	}
}

// joined is the machine that has a state for each class, numbered as they are come to.
func (t *table) joined(class []int) api.Machine {
	var m api.Machine
	state := map[int]int{class[0]: 0}
	rows := []int{0} // of each state a row of its class
	for at := 0; at < len(rows); at++ {
		line := t.rows[rows[at]]
		if line.final {
			m.Finals = append(m.Finals, api.Final{State: at})
		}
		for symbol, to := range line.next {
			if to == nowhereOn {
				continue
			}
			number, ok := state[class[to]]
			if !ok {
				number = len(rows)
				state[class[to]] = number
				rows = append(rows, to)
			}
			m.Arcs = append(m.Arcs, api.Arc{From: at, To: number, In: symbol, Out: symbol})
		}
	}
	m.States = len(rows)
	return m
}
