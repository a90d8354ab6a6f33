package machine

import (
	"cmp"
	"slices"
	"testing"

	"wordhoard/api"
)

// draw tells numbers that look like chance, the same each time.
type draw uint64

func (d *draw) n(n int) int {
	*d = *d*6364136223846793005 + 1442695040888963407
	return int(uint64(*d) >> 33 % uint64(n))
}

// A kind of machine to draw.
type mould struct {
	states, arcs, symbols, cost int
	plain                       bool
}

func (d *draw) machine(k mould) api.Machine {
	m := api.Machine{States: 1 + d.n(k.states)}
	for range d.n(k.arcs + 1) {
		arc := api.Arc{From: d.n(m.States), To: d.n(m.States), In: d.n(k.symbols + 1), Out: d.n(k.symbols + 1), W: d.n(k.cost + 1)}
		if k.plain {
			arc.Out, arc.W = arc.In, 0
		}
		m.Arcs = append(m.Arcs, arc)
	}
	for state := range m.States {
		if d.n(2) == 0 {
			final := api.Final{State: state, W: d.n(k.cost + 1)}
			if k.plain {
				final.W = 0
			}
			m.Finals = append(m.Finals, final)
		}
	}
	return m
}

func (d *draw) plain() api.Machine {
	return d.machine(mould{states: 5, arcs: 12, symbols: 2, plain: true})
}

// words are all texts of up to so many symbols, the shorter ones first, then as lists are compared.
func words(symbols, long int) [][]int {
	all := [][]int{nil}
	for from := 0; long > 0; long-- {
		end := len(all)
		for _, w := range all[from:end] {
			for c := 1; c <= symbols; c++ {
				all = append(all, append(slices.Clone(w), c))
			}
		}
		from = end
	}
	return all
}

func byLength(a, b []int) int {
	if len(a) != len(b) {
		return cmp.Compare(len(a), len(b))
	}
	return slices.Compare(a, b)
}

// slowCost makes costs less along all arcs until none gets any less.
func slowCost(m api.Machine, in, out []int) (int, bool) {
	type node struct{ state, i, j int }
	best := map[node]int{{}: 0}
	for changed := true; changed; {
		changed = false
		for _, arc := range m.Arcs {
			for i := 0; i <= len(in); i++ {
				for j := 0; j <= len(out); j++ {
					cost, ok := best[node{arc.From, i, j}]
					to := node{arc.To, i, j}
					if arc.In != 0 {
						ok = ok && i < len(in) && in[i] == arc.In
						to.i++
					}
					if arc.Out != 0 {
						ok = ok && j < len(out) && out[j] == arc.Out
						to.j++
					}
					if !ok {
						continue
					}
					if old, met := best[to]; !met || cost+arc.W < old {
						best[to] = cost + arc.W
						changed = true
					}
				}
			}
		}
	}
	least, found := 0, false
	for _, final := range m.Finals {
		if cost, ok := best[node{final.State, len(in), len(out)}]; ok && (!found || cost+final.W < least) {
			least, found = cost+final.W, true
		}
	}
	return least, found
}

// reads tells whether a plain machine reads a text.
func reads(m api.Machine, text []int) bool {
	_, ok := slowCost(m, text, text)
	return ok
}

func mustCost(t *testing.T, m api.Machine, in, out []int) (int, bool) {
	t.Helper()
	cost, ok, e := Cost(m, in, out)
	if e != api.OK || !ok && cost != 0 {
		t.Fatalf("Cost of %v, %v: %d %v %d", in, out, cost, ok, e)
	}
	return cost, ok
}

// line reads (and writes) a symbol so often, and nothing else.
func line(symbol, often int) api.Machine {
	m := api.Machine{States: often + 1, Finals: []api.Final{{State: often}}}
	for s := range often {
		m.Arcs = append(m.Arcs, api.Arc{From: s, To: s + 1, In: symbol, Out: symbol})
	}
	return m
}

// ring reads (and writes) the texts of 1 whose length n divides.
func ring(n int) api.Machine {
	m := api.Machine{States: n, Finals: []api.Final{{}}}
	for s := range n {
		m.Arcs = append(m.Arcs, api.Arc{From: s, To: (s + 1) % n, In: 1, Out: 1})
	}
	return m
}

func same(a, b api.Machine) bool {
	return a.States == b.States && slices.Equal(a.Arcs, b.Arcs) && slices.Equal(a.Finals, b.Finals)
}

func isZero(m api.Machine) bool { return m.States == 0 && len(m.Arcs) == 0 && len(m.Finals) == 0 }
