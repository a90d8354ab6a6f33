package learn

import (
	"math"
	"slices"
	"testing"

	"wordhoard/api"
	"wordhoard/machine"
)

// N1, N2: of few states, told as any plain machine, whichever texts the teacher tells.
func TestLearnOfPlainMachines(t *testing.T) {
	d := draw(1)
	sizes := map[int]int{}
	for range 2000 {
		kinds := 1 + d.n(4)
		m := d.plain(9, 3*kinds+6, kinds)
		small, e := machine.Sure(m)
		if e != api.OK {
			t.Fatalf("%v: %d", m, e)
		}
		if small.States > api.MaxLearn {
			continue
		}
		sizes[small.States]++
		for _, longer := range d.ways(kinds) {
			x := newTeacher(t, kinds, m)
			x.longer = longer
			x.held()
		}
	}
	for states := 1; states <= 7; states++ {
		if sizes[states] < 10 {
			t.Errorf("only %d of %d states", sizes[states], states)
		}
	}
}

// N1, N2: of all sizes, with and without a state from which nothing is read.
func TestLearnOfSureMachines(t *testing.T) {
	d := draw(2)
	sizes := map[int]int{}
	for range 20 {
		for states := 1; states <= api.MaxLearn; states++ {
			kinds := 1 + d.n(4)
			for _, longer := range d.ways(kinds) {
				x := newTeacher(t, kinds, d.sure(states, kinds, d.n(9)))
				x.longer = longer
				x.held()
				sizes[x.knows.States]++
			}
		}
	}
	if sizes[api.MaxLearn] < 30 || sizes[1] < 30 {
		t.Errorf("only %d of the most states, %d of one", sizes[api.MaxLearn], sizes[1])
	}
}

// N1, N2: rings, in which states are told apart by long texts alone; and lines.
func TestLearnOfRingsAndLines(t *testing.T) {
	d := draw(3)
	for kinds := 1; kinds <= 4; kinds++ {
		for states := 1; states <= api.MaxLearn; states++ {
			for _, m := range []api.Machine{ring(states, kinds, 0), ring(states, kinds, states-1), line(states - 1)} {
				for _, longer := range d.ways(kinds) {
					x := newTeacher(t, kinds, m)
					if x.knows.States != states {
						t.Fatalf("%v has %d states", m, x.knows.States)
					}
					x.longer = longer
					x.held()
				}
			}
		}
	}
}

// N1: the small machine of texts of all kinds, of none, and of the empty one alone.
func TestLearnOfTheLeast(t *testing.T) {
	all := ring(1, 2, 0)
	for _, c := range []struct {
		name        string
		kinds       int
		knows, want api.Machine
	}{
		{"all texts", 2, all, all},
		{"no text", 2, ring(1, 2), api.Machine{States: 1}},
		{"no text, of many states", 3, ring(9, 3), api.Machine{States: 1}},
		{"the empty text", 4, line(0), api.Machine{States: 1, Finals: []api.Final{{}}}},
		{"all but the empty text", 1, api.Machine{States: 2, Arcs: []api.Arc{{To: 1, In: 1, Out: 1}, {From: 1, To: 1, In: 1, Out: 1}}, Finals: []api.Final{{State: 1}}},
			api.Machine{States: 2, Arcs: []api.Arc{{To: 1, In: 1, Out: 1}, {From: 1, To: 1, In: 1, Out: 1}}, Finals: []api.Final{{State: 1}}}},
		{"the document's example", 1, line(1), api.Machine{States: 2, Arcs: []api.Arc{{To: 1, In: 1, Out: 1}}, Finals: []api.Final{{State: 1}}}},
		{"states by the order of their symbols", 2, api.Machine{States: 3, Arcs: []api.Arc{{To: 2, In: 1, Out: 1}, {To: 1, In: 2, Out: 2}, {From: 1, To: 2, In: 1, Out: 1}}, Finals: []api.Final{{State: 2}}},
			api.Machine{States: 3, Arcs: []api.Arc{{To: 1, In: 1, Out: 1}, {To: 2, In: 2, Out: 2}, {From: 2, To: 1, In: 1, Out: 1}}, Finals: []api.Final{{State: 1}}}},
	} {
		m, e := Learn(c.kinds, newTeacher(t, c.kinds, c.knows))
		if !same(m, c.want) || e != api.OK {
			t.Errorf("%s: %v %d", c.name, m, e)
		}
	}
}

// N1: more states than may be learnt, by one and by many, with and without one from which nothing is read.
func TestLearnOfTooMany(t *testing.T) {
	d := draw(4)
	const most = api.MaxLearn
	for kinds := 1; kinds <= 4; kinds++ {
		for _, c := range []struct {
			name  string
			knows api.Machine
			e     api.Errno
		}{
			{"a ring of the most", ring(most, kinds, 3), api.OK},
			{"a ring of one more", ring(most+1, kinds, 3), api.ErrMany},
			{"a ring of two more", ring(most+2, kinds, 3), api.ErrMany},
			{"a line of the most", line(most - 1), api.OK},
			{"a line of one more", line(most), api.ErrMany},
			{"a line of two more", line(most + 1), api.ErrMany},
			{"a line of many", line(100), api.ErrMany},
			{"a ring of many", ring(200, kinds, 0, 1, 2, 150), api.ErrMany},
		} {
			for _, longer := range d.ways(kinds) {
				x := newTeacher(t, kinds, c.knows)
				x.longer = longer
				m, e := Learn(kinds, x)
				if e != c.e || e != api.OK && !isZero(m) || e == api.OK && !same(m, x.knows) {
					t.Errorf("%s, of %d kinds: %v %d", c.name, kinds, m, e)
				}
			}
		}
	}
	for range 60 {
		x := newTeacher(t, 2, d.sure(most+1+d.n(9), 2, d.n(9)))
		want := api.OK
		if x.knows.States > most {
			want = api.ErrMany
		}
		if m, e := Learn(2, x); e != want || e != api.OK && !isZero(m) {
			t.Errorf("%d states: %v %d", x.knows.States, m, e)
		}
	}
}

// N1, P1: wrong kinds come ahead of no teacher; nobody is asked then.
func TestLearnOfWrongThings(t *testing.T) {
	for _, kinds := range []int{-1, 0, 5, 60, math.MinInt, math.MaxInt, 1 << 32, 1<<32 + 1} {
		x := newTeacher(t, 1, line(1))
		if m, e := Learn(kinds, x); !isZero(m) || e != api.ErrRange || x.has+x.asks > 0 {
			t.Errorf("%d kinds: %v %d, %d questions", kinds, m, e, x.has+x.asks)
		}
		if m, e := Learn(kinds, nil); !isZero(m) || e != api.ErrRange {
			t.Errorf("%d kinds, no teacher: %v %d", kinds, m, e)
		}
	}
	for kinds := 1; kinds <= 4; kinds++ {
		if m, e := Learn(kinds, nil); !isZero(m) || e != api.ErrNone {
			t.Errorf("no teacher: %v %d", m, e)
		}
	}
}

// N2, P4: texts that are told are as long as anything.
func TestLearnOfLongTexts(t *testing.T) {
	for _, m := range []api.Machine{ring(api.MaxLearn, 2, 0, 7), line(api.MaxLearn - 1), ring(3, 2, 1)} {
		x := newTeacher(t, 2, m)
		x.longer = func(l []int) []int { // 2 changes nothing in a ring, and is not read in a line
			if m.Arcs[1].In == 2 {
				return append(slices.Repeat([]int{2}, 50000), l...)
			}
			return l
		}
		x.held()
	}
}

// says is a teacher whose answers are any.
type says struct {
	has   func(text []int) bool
	apart func(m api.Machine) ([]int, bool)
	asked int
}

func (s *says) Has(text []int) bool {
	s.asked++
	return s.has(text)
}

func (s *says) Apart(m api.Machine) ([]int, bool) {
	s.asked++
	return s.apart(m)
}

// N1, N2, P1: teachers that are not fair: it ends, and asks of nothing but texts of its kinds.
func TestLearnOfUnfairTeachers(t *testing.T) {
	d := draw(5)
	chance := func([]int) bool { return d.n(2) == 0 }
	turns := 0
	inTurn := func([]int) bool { turns++; return turns%3 == 0 }
	balanced := func(l []int) bool {
		n := len(l) / 2
		return slices.Equal(l, append(slices.Repeat([]int{1}, n), slices.Repeat([]int{2}, n)...))
	}
	odd := func(l []int) bool { return len(l)%2 == 1 }
	long := 0
	tells := []func(m api.Machine) ([]int, bool){
		func(api.Machine) ([]int, bool) { return nil, true },
		func(api.Machine) ([]int, bool) { return nil, false },
		func(api.Machine) ([]int, bool) { return []int{1, 2, 1}, false },
		func(api.Machine) ([]int, bool) { return []int{1}, true },
		func(api.Machine) ([]int, bool) { return []int{2, 2, 1, 2, 1, 1}, true },
		func(api.Machine) ([]int, bool) { return []int{0}, true },
		func(api.Machine) ([]int, bool) { return []int{3}, true },
		func(api.Machine) ([]int, bool) { return []int{1, 4, 2}, true },
		func(api.Machine) ([]int, bool) { return []int{1, 5}, true },
		func(api.Machine) ([]int, bool) { return []int{-1, 1}, true },
		func(api.Machine) ([]int, bool) { return []int{math.MinInt, math.MaxInt}, true },
		func(api.Machine) ([]int, bool) { long++; return slices.Repeat([]int{1}, long), true },
		func(api.Machine) ([]int, bool) { return slices.Repeat([]int{2, 1}, 5000), true },
		func(m api.Machine) ([]int, bool) {
			for n := range 40 {
				l := append(slices.Repeat([]int{1}, n), slices.Repeat([]int{2}, n)...)
				if !reads(m, l) {
					return l, true
				}
			}
			return nil, false
		},
		func(api.Machine) ([]int, bool) {
			l := make([]int, d.n(9))
			for i := range l {
				l[i] = 1 + d.n(2)
			}
			return l, true
		},
	}
	for i, has := range []func([]int) bool{chance, inTurn, balanced, odd, func([]int) bool { return true }} {
		for j, apart := range tells {
			for range 20 {
				x := &says{apart: apart}
				x.has = func(l []int) bool {
					if slices.ContainsFunc(l, func(symbol int) bool { return symbol < 1 || symbol > 2 }) {
						t.Fatalf("%d %d: it asks of %v", i, j, l)
					}
					return has(l)
				}
				m, e := Learn(2, x)
				if e != api.OK && !isZero(m) || e == api.OK && machine.Check(m) != api.OK {
					t.Fatalf("%d %d: %v %d", i, j, m, e)
				}
				if x.asked > 5000 {
					t.Fatalf("%d %d: %d questions", i, j, x.asked)
				}
			}
		}
	}
}

// P2, P3: what is learnt is the caller's, and the same each time.
func TestLearnAnswersAnew(t *testing.T) {
	d := draw(6)
	for range 200 {
		kinds := 1 + d.n(4)
		knows := d.sure(1+d.n(9), kinds, d.n(9))
		var kept []api.Machine
		x := newTeacher(t, kinds, knows)
		keeper := &says{has: x.Has, apart: func(m api.Machine) ([]int, bool) {
			kept = append(kept, m)
			return x.Apart(api.Machine{States: m.States, Arcs: slices.Clone(m.Arcs), Finals: slices.Clone(m.Finals)})
		}}
		m, _ := Learn(kinds, keeper)
		for _, k := range kept { // what the teacher kept is not what the caller gets
			spoil(k.Arcs, api.Arc{From: -7})
			spoil(k.Finals, api.Final{State: -7})
		}
		if !same(m, x.knows) {
			t.Fatalf("of %v: %v", x.knows, m)
		}
		asked := x.has
		spoil(m.Arcs, api.Arc{From: -7})
		spoil(m.Finals, api.Final{State: -7})
		again := newTeacher(t, kinds, knows)
		if m, e := Learn(kinds, again); !same(m, x.knows) || e != api.OK || again.has != asked || again.asks != len(kept) {
			t.Fatalf("of %v: %v %d, then", x.knows, m, e)
		}
	}
}
