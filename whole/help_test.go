// Package whole has tests of what all packages promise together: see the
// document's section 'What the whole promises', and its examples.
package whole

import (
	"math/big"
	"slices"
	"testing"

	"wordhoard/api"
	"wordhoard/machine"
)

// draw tells numbers that look like chance, the same each time.
type draw uint64

func (d *draw) n(n int) int {
	*d = *d*6364136223846793005 + 1442695040888963407
	return int(uint64(*d) >> 33 % uint64(n))
}

// text of symbols from 1 to kinds.
func (d *draw) text(least, most, kinds int) []int {
	l := make([]int, least+d.n(most-least+1))
	for i := range l {
		l[i] = 1 + d.n(kinds)
	}
	return l
}

// texts are all those of up to so many symbols, the shorter ones first.
func texts(kinds, long int) [][]int {
	all := [][]int{nil}
	for from := 0; long > 0; long-- {
		end := len(all)
		for _, text := range all[from:end] {
			for symbol := 1; symbol <= kinds; symbol++ {
				all = append(all, append(slices.Clone(text), symbol))
			}
		}
		from = end
	}
	return all
}

func has(l [][]int, text []int) bool {
	return slices.ContainsFunc(l, func(other []int) bool { return slices.Equal(other, text) })
}

// plain machine of few states.
func (d *draw) plain(states, arcs, kinds int) api.Machine {
	m := api.Machine{States: 1 + d.n(states)}
	for range d.n(arcs + 1) {
		symbol := d.n(kinds + 1)
		m.Arcs = append(m.Arcs, api.Arc{From: d.n(m.States), To: d.n(m.States), In: symbol, Out: symbol})
	}
	for s := range m.States {
		if d.n(2) == 0 {
			m.Finals = append(m.Finals, api.Final{State: s})
		}
	}
	return m
}

func (d *draw) spots(most, edge, kinds int) []api.Spot {
	var l []api.Spot
	for range d.n(most + 1) {
		l = append(l, api.Spot{Any: d.text(1, 3, kinds)})
	}
	if len(l) > edge {
		l[edge].Edge = d.n(2) == 0
	}
	return l
}

func (d *draw) change(kinds int) api.Change {
	return api.Change{Kinds: kinds, From: d.text(1, 2, kinds), To: d.text(0, 2, kinds), Left: d.spots(2, 0, kinds), Right: d.spots(1, 0, kinds)}
}

// lexicon with one change at least.
func (d *draw) lexicon() api.Lexicon {
	l := api.Lexicon{Kinds: 1 + d.n(4)}
	for range 1 + d.n(4) {
		l.Stems = append(l.Stems, api.Stem{Form: d.text(1, 4, l.Kinds), Class: d.n(2)})
		l.Cells = append(l.Cells, api.Cell{Class: d.n(2), Before: d.text(0, 2, l.Kinds), Behind: d.text(0, 3, l.Kinds)})
	}
	for range 1 + d.n(api.MaxChanges) {
		l.Changes = append(l.Changes, d.change(l.Kinds))
	}
	return l
}

// grammar of few kinds and words, so that texts often have several trees.
func (d *draw) grammar(kinds, rules, parts, words int) api.Grammar {
	g := api.Grammar{Kinds: 1 + d.n(kinds)}
	for range d.n(rules + 1) {
		r := api.Rule{Head: d.n(g.Kinds)}
		for range 1 + d.n(parts) {
			if d.n(2) == 0 {
				r.Body = append(r.Body, -1-d.n(words))
			} else {
				r.Body = append(r.Body, d.n(g.Kinds))
			}
		}
		g.Rules = append(g.Rules, r)
	}
	return g
}

func ratOf(s string) *big.Rat {
	r, ok := new(big.Rat).SetString(s)
	if !ok {
		panic(s)
	}
	return r
}

// line reads (and writes) just one text.
func line(text []int) api.Machine {
	m := api.Machine{States: len(text) + 1, Finals: []api.Final{{State: len(text)}}}
	for s, symbol := range text {
		m.Arcs = append(m.Arcs, api.Arc{From: s, To: s + 1, In: symbol, Out: symbol})
	}
	return m
}

func same(a, b api.Machine) bool {
	return a.States == b.States && slices.Equal(a.Arcs, b.Arcs) && slices.Equal(a.Finals, b.Finals)
}

// ok fails the test, if something is told that is none.
func ok(t *testing.T, what any, l ...api.Errno) {
	t.Helper()
	for _, e := range l {
		if e != api.OK {
			t.Fatalf("%v: %d", what, l)
		}
	}
}

// writes is the small sure machine of all that a machine writes.
func writes(t *testing.T, m api.Machine) api.Machine {
	t.Helper()
	turned, e := machine.Turn(m)
	side, f := machine.Side(turned)
	small, g := machine.Sure(side)
	ok(t, m, e, f, g)
	return small
}

// reads tells whether a plain machine reads a text.
func reads(t *testing.T, m api.Machine, text []int) bool {
	t.Helper()
	_, is, e := machine.Cost(m, text, text)
	ok(t, m, e)
	return is
}
