package learn

import (
	"slices"

	"wordhoard/api"
)

// unfair is told of teachers who can't be: what they say of one text does not
// go with what they say of others.
const unfair = api.ErrState

// row of what a teacher said of one text.
type row struct {
	text []int
	has  []bool // of each end, whether the text with it behind is one of the teacher's
}

// pupil has what a teacher said so far.
type pupil struct {
	teacher api.Teacher
	kinds   int
	ends    [][]int // by which states are told apart; the first one is empty
	rows    []row   // that of the empty text, then those of the steps of each state, symbol by symbol
	states  []int   // the rows that are states: no two of them have the same answers
}

// begin with a question: is the empty text one of the teacher's?
func begin(kinds int, t api.Teacher) *pupil {
	p := &pupil{teacher: t, kinds: kinds, ends: [][]int{nil}}
	p.addRow(nil)
	return p
}

// asks whether a text with an end behind it is one of the teacher's. What is
// handed over is a new list, as the teacher may change it.
func (p *pupil) asks(text, end []int) bool { return p.teacher.Has(slices.Concat(text, end)) }

func (p *pupil) addRow(text []int) {
	r := row{text: text}
	for _, end := range p.ends {
		r.has = append(r.has, p.asks(text, end))
	}
	p.rows = append(p.rows, r)
}

func (p *pupil) addEnd(end []int) {
	p.ends = append(p.ends, end)
	for i, r := range p.rows {
		p.rows[i].has = append(r.has, p.asks(r.text, end))
	}
}

// addState takes a row as a state, and asks where its steps lead.
func (p *pupil) addState(at int) {
	p.states = append(p.states, at)
	for symbol := 1; symbol <= p.kinds; symbol++ {
		p.addRow(append(slices.Clone(p.rows[at].text), symbol))
	}
}

// state that has the answers of a row; -1: there is none.
func (p *pupil) state(r row) int {
	return slices.IndexFunc(p.states, func(at int) bool { return slices.Equal(p.rows[at].has, r.has) })
}

// settle takes rows as states until each row is like one of them. Two states
// have different answers, so there are no fewer in any sure machine; but one of
// them may be that from which nothing is read, which a small machine is without.
// A fair teacher's word always leads to a new state.
func (p *pupil) settle() api.Errno {
	known := len(p.states)
	for at := 0; at < len(p.rows); at++ {
		if p.state(p.rows[at]) >= 0 {
			continue
		}
		if len(p.states) > api.MaxLearn {
			return api.ErrMany
		}
		p.addState(at)
	}
	if len(p.states) == known {
		return unfair
	}
	return api.OK
}

// guess a machine: it goes on from each state by each symbol.
func (p *pupil) guess() api.Machine {
	m := api.Machine{States: len(p.states)}
	for i, step := range p.rows[1:] {
		symbol := 1 + i%p.kinds
		m.Arcs = append(m.Arcs, api.Arc{From: i / p.kinds, To: p.state(step), In: symbol, Out: symbol})
	}
	for s := range p.states {
		if p.isFinal(s) {
			m.Finals = append(m.Finals, api.Final{State: s})
		}
	}
	return m
}

func (p *pupil) isFinal(state int) bool { return p.rows[p.states[state]].has[0] }

// hear a text of which the guess is wrong, and take an end from it.
func (p *pupil) hear(guess api.Machine, text []int) api.Errno {
	isNone := func(symbol int) bool { return symbol < 1 || symbol > p.kinds }
	if slices.ContainsFunc(text, isNone) {
		return unfair
	}
	p.addEnd(text[p.turn(p.walk(guess, text), text):])
	return api.OK
}

// walk along a text: the state ahead of each symbol, and the last one.
func (p *pupil) walk(guess api.Machine, text []int) []int {
	states := make([]int, 1, len(text)+1)
	at := 0
	for _, symbol := range text {
		at = guess.Arcs[at*p.kinds+symbol-1].To
		states = append(states, at)
	}
	return states
}

// turn is a place of a text from which on the guess is right of what stands
// behind, if it goes on from the state that it came to, and is wrong from the
// place ahead of that on: so what stands behind it tells two rows apart that had
// the same answers so far. The guess is wrong from the beginning on, as the
// teacher said, and right at the end; between these such a place is found by
// halving (RIVEST, SCHAPIRE). It is looked for from the end on, as what stands
// behind it is asked often.
func (p *pupil) turn(states, text []int) int {
	wrong, right := 0, len(text)
	final := p.isFinal(states[right])
	isRight := func(at int) bool { return p.asks(p.rows[p.states[states[at]]].text, text[at:]) == final }
	for back := 1; back < len(text) && wrong == 0; back *= 2 {
		if at := len(text) - back; isRight(at) {
			right = at
		} else {
			wrong = at
		}
	}
	for right-wrong > 1 {
		if at := wrong + (right-wrong)/2; isRight(at) {
			right = at
		} else {
			wrong = at
		}
	}
	return right
}
