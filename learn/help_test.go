package learn

import (
	"slices"
	"testing"

	"wordhoard/api"
	"wordhoard/machine"
)

// draw tells numbers that look like chance, the same each time.
type draw uint64

func (d *draw) n(n int) int {
	*d = *d*6364136223846793005 + 1442695040888963407
	return int(uint64(*d) >> 33 % uint64(n))
}

// plain machine of few states, in which arcs may read nothing, and several the same.
func (d *draw) plain(states, arcs, kinds int) api.Machine {
	m := api.Machine{States: 1 + d.n(states)}
	for range d.n(arcs + 1) {
		symbol := d.n(kinds + 1)
		m.Arcs = append(m.Arcs, api.Arc{From: d.n(m.States), To: d.n(m.States), In: symbol, Out: symbol})
	}
	for s := range m.States {
		if d.n(3) == 0 {
			m.Finals = append(m.Finals, api.Final{State: s})
		}
	}
	return m
}

// sure machine of so many states, of whose arcs about one in holes is not there
// (0: all are); one symbol of each state often leads on to the next one.
func (d *draw) sure(states, kinds, holes int) api.Machine {
	m := api.Machine{States: states}
	spine := d.n(3) > 0
	for s := range states {
		on := 1 + d.n(kinds)
		for symbol := 1; symbol <= kinds; symbol++ {
			if spine && symbol == on && s+1 < states {
				m.Arcs = append(m.Arcs, api.Arc{From: s, To: s + 1, In: symbol, Out: symbol})
			} else if holes == 0 || d.n(holes) > 0 {
				m.Arcs = append(m.Arcs, api.Arc{From: s, To: d.n(states), In: symbol, Out: symbol})
			}
		}
		if d.n(2) == 0 {
			m.Finals = append(m.Finals, api.Final{State: s})
		}
	}
	return m
}

// ring reads the texts in which the ones are some of a number too many, by its rest.
func ring(states, kinds int, rests ...int) api.Machine {
	m := api.Machine{States: states}
	for s := range states {
		m.Arcs = append(m.Arcs, api.Arc{From: s, To: (s + 1) % states, In: 1, Out: 1})
		for symbol := 2; symbol <= kinds; symbol++ {
			m.Arcs = append(m.Arcs, api.Arc{From: s, To: s, In: symbol, Out: symbol})
		}
	}
	for _, s := range rests {
		m.Finals = append(m.Finals, api.Final{State: s})
	}
	return m
}

// line reads just one text, of so many ones.
func line(long int) api.Machine {
	m := api.Machine{States: long + 1, Finals: []api.Final{{State: long}}}
	for s := range long {
		m.Arcs = append(m.Arcs, api.Arc{From: s, To: s + 1, In: 1, Out: 1})
	}
	return m
}

// reads tells whether a plain machine reads a text: by all states that it may be in.
func reads(m api.Machine, text []int) bool {
	at := closed(m, map[int]int{0: 1})
	for _, symbol := range text {
		next := map[int]int{}
		for _, arc := range m.Arcs {
			if at[arc.From] > 0 && arc.In == symbol {
				next[arc.To] = 1
			}
		}
		at = closed(m, next)
	}
	return slices.ContainsFunc(m.Finals, func(f api.Final) bool { return at[f.State] > 0 })
}

func closed(m api.Machine, at map[int]int) map[int]int {
	for more := true; more; {
		more = false
		for _, arc := range m.Arcs {
			if arc.In == 0 && at[arc.From] > 0 && at[arc.To] == 0 {
				at[arc.To] = 1
				more = true
			}
		}
	}
	return at
}

func same(a, b api.Machine) bool {
	return a.States == b.States && slices.Equal(a.Arcs, b.Arcs) && slices.Equal(a.Finals, b.Finals)
}

func isZero(m api.Machine) bool { return m.States == 0 && len(m.Arcs) == 0 && len(m.Finals) == 0 }

// teacher is fair: it knows the texts of a plain machine. It holds what it is
// handed against N2, and then spoils it, as it is its own; it tells all texts in
// one list, which it spoils with the next question.
type teacher struct {
	t         *testing.T
	kinds     int
	knows     api.Machine // sure
	longer    func(text []int) []int
	has, asks int
	longest   int
	told      []int
}

func newTeacher(t *testing.T, kinds int, knows api.Machine) *teacher {
	t.Helper()
	small, e := machine.Sure(knows)
	if e != api.OK {
		t.Fatalf("%v: %d", knows, e)
	}
	return &teacher{t: t, kinds: kinds, knows: small}
}

// is tells whether it knows a text.
func (x *teacher) is(text []int) bool {
	at := 0
	for _, symbol := range text {
		i := slices.IndexFunc(x.knows.Arcs, func(a api.Arc) bool { return a.From == at && a.In == symbol })
		if i < 0 {
			return false
		}
		at = x.knows.Arcs[i].To
	}
	return slices.ContainsFunc(x.knows.Finals, func(f api.Final) bool { return f.State == at })
}

func (x *teacher) Has(text []int) bool {
	x.has++
	clear(x.told)
	if slices.ContainsFunc(text, func(symbol int) bool { return symbol < 1 || symbol > x.kinds }) {
		x.t.Fatalf("it asks of %v, of %d kinds", text, x.kinds)
	}
	answer := x.is(text)
	spoil(text, -7)
	return answer
}

func (x *teacher) Apart(m api.Machine) ([]int, bool) {
	x.asks++
	if e := machine.Check(m); e != api.OK {
		x.t.Fatalf("it guesses %v: %d", m, e)
	}
	text, apart, e := machine.Apart(m, x.knows)
	if e != api.OK {
		x.t.Fatalf("it guesses %v: %d", m, e)
	}
	if apart && x.longer != nil {
		if other := x.longer(text); x.is(other) != reads(m, other) {
			text = other
		}
	}
	spoil(m.Arcs, api.Arc{From: -7, In: -7})
	spoil(m.Finals, api.Final{State: -7})
	if apart {
		x.longest = max(x.longest, len(text))
	}
	x.told = append(x.told[:0], text...)
	return x.told, apart
}

// spoil a list, and the room behind it.
func spoil[T any](l []T, with T) {
	l = l[:cap(l)]
	for i := range l {
		l[i] = with
	}
}

// held against N1 and N2: what was learnt is what the teacher knows, by so many questions.
func (x *teacher) held() {
	x.t.Helper()
	m, e := Learn(x.kinds, x)
	if !same(m, x.knows) || e != api.OK {
		x.t.Fatalf("of %v: %v %d", x.knows, m, e)
	}
	n := x.knows.States + 1
	if x.asks > n {
		x.t.Fatalf("of %v: %d guesses", x.knows, x.asks)
	}
	if most := (x.kinds+1)*n*n + n*(x.longest+2); x.has > most {
		x.t.Fatalf("of %v: %d questions, %d are allowed", x.knows, x.has, most)
	}
}

// ways in which a teacher tells texts other than the first one.
func (d *draw) ways(kinds int) []func([]int) []int {
	text := func(long int) []int {
		l := make([]int, long)
		for i := range l {
			l[i] = 1 + d.n(kinds)
		}
		return l
	}
	return []func([]int) []int{
		nil,
		func([]int) []int { return text(1 + d.n(6)) },
		func([]int) []int { return text(30 + d.n(60)) },
		func(l []int) []int { return append(text(d.n(9)), l...) },
		func(l []int) []int { return append(slices.Clone(l), text(d.n(9))...) },
		func(l []int) []int { return append(slices.Repeat([]int{1 + d.n(kinds)}, d.n(70)), l...) },
	}
}
