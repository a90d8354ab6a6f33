package machine

import (
	"math"

	"wordhoard/api"
)

// far is the cost of what is not come to.
const far = math.MaxInt

// Cost of the cheapest walk.
func Cost(m api.Machine, in, out []int) (int, bool, api.Errno) {
	if e := Check(m); e != api.OK {
		return 0, false, e
	}
	if len(in) > api.MaxWalk || len(out) > api.MaxWalk {
		return 0, false, api.ErrLong
	}
	if !areSymbols(in) || !areSymbols(out) {
		return 0, false, api.ErrRange
	}
	least := cheapestEnd(m, newField(m).costs(in, out))
	if least == far {
		return 0, false, api.OK
	}
	return least, true, api.OK
}

// cheapestEnd is the least of what it costs to come to a final state and to end there.
func cheapestEnd(m api.Machine, costs []int) int {
	least := far
	for _, final := range m.Finals {
		if costs[final.State] != far {
			least = min(least, costs[final.State]+final.W)
		}
	}
	return least
}

// A label is what an arc reads and writes.
type label struct{ in, out int }

// A field has a machine's arcs as they are looked for when both texts are known.
type field struct {
	states int
	arcs   map[label][]api.Arc
	silent [][]api.Arc // those that neither read nor write, by the state they leave
	queue  queue
}

func newField(m api.Machine) *field {
	f := &field{states: m.States, arcs: map[label][]api.Arc{}, silent: make([][]api.Arc, m.States)}
	for _, arc := range m.Arcs {
		if arc.In == 0 && arc.Out == 0 {
			f.silent[arc.From] = append(f.silent[arc.From], arc)
		} else {
			name := label{arc.In, arc.Out}
			f.arcs[name] = append(f.arcs[name], arc)
		}
	}
	return f
}

// costs of coming to each state by all of in and out. Only silent arcs stay at
// the same place of both texts, so the places are done one behind the other.
func (f *field) costs(in, out []int) []int {
	var above, row [][]int // of the place ahead of this one of in, and of this one: by places of out
	for i := 0; i <= len(in); i++ {
		above, row = row, nil
		for j := 0; j <= len(out); j++ {
			here := nowhere(f.states)
			if i == 0 && j == 0 {
				here[0] = 0
			}
			if i > 0 {
				f.step(above[j], here, label{in[i-1], 0})
			}
			if j > 0 {
				f.step(row[j-1], here, label{0, out[j-1]})
			}
			if i > 0 && j > 0 {
				f.step(above[j-1], here, label{in[i-1], out[j-1]})
			}
			f.settle(here)
			row = append(row, here)
		}
	}
	return row[len(out)]
}

// nowhere has the costs of states of which none is come to.
func nowhere(states int) []int {
	costs := make([]int, states)
	for state := range costs {
		costs[state] = far
	}
	return costs
}

// step goes along all arcs of a label at once.
func (f *field) step(from, to []int, name label) {
	for _, arc := range f.arcs[name] {
		if from[arc.From] != far {
			to[arc.To] = min(to[arc.To], from[arc.From]+arc.W)
		}
	}
}

// settle goes along silent arcs as far as they make anything cheaper, from the
// cheapest state on (Dijkstra), as there may be rings of them.
func (f *field) settle(costs []int) {
	for state, cost := range costs {
		if cost != far && len(f.silent[state]) > 0 {
			f.queue.push(entry{cost, state})
		}
	}
	for len(f.queue) > 0 {
		first := f.queue.pop()
		if first.cost > costs[first.state] {
			continue
		}
		for _, arc := range f.silent[first.state] {
			if cost := first.cost + arc.W; cost < costs[arc.To] {
				costs[arc.To] = cost
				f.queue.push(entry{cost, arc.To})
			}
		}
	}
}
