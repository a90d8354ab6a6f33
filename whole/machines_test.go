package whole

import (
	"slices"
	"testing"

	"wordhoard/api"
	"wordhoard/forms"
	"wordhoard/learn"
	"wordhoard/machine"
	"wordhoard/sound"
)

// from is a machine that begins in another state.
func from(m api.Machine, state int) api.Machine {
	swap := func(s int) int {
		switch s {
		case 0:
			return state
		case state:
			return 0
		}
		return s
	}
	other := api.Machine{States: m.States}
	for _, arc := range m.Arcs {
		arc.From, arc.To = swap(arc.From), swap(arc.To)
		other.Arcs = append(other.Arcs, arc)
	}
	for _, final := range m.Finals {
		other.Finals = append(other.Finals, api.Final{State: swap(final.State)})
	}
	return other
}

// Two machines read the same just if their small ones are the same, and none is smaller.
func TestSmallMachines(t *testing.T) { // B6
	d := draw(1)
	alike := 0
	for range 600 {
		a, b := d.plain(3, 6, 2), d.plain(3, 6, 2)
		x, e := machine.Sure(a)
		y, f := machine.Sure(b)
		text, apart, g := machine.Apart(a, b)
		ok(t, a, e, f, g)
		if apart == same(x, y) || apart && reads(t, a, text) == reads(t, b, text) {
			t.Fatalf("%v and %v: %v %v; %v, %v", a, b, x, y, text, apart)
		}
		if !apart {
			alike++
		}
		for _, text := range texts(2, 5) {
			if reads(t, a, text) != reads(t, x, text) || !apart && reads(t, a, text) != reads(t, b, text) {
				t.Fatalf("%v, %v: of %v", a, x, text)
			}
		}
		for s := range x.States { // what begins in two states is told apart by some text, so no machine does with fewer
			for r := range s {
				if _, apart, e := machine.Apart(from(x, s), from(x, r)); !apart || e != api.OK {
					t.Fatalf("%v: %d and %d read the same", x, s, r)
				}
			}
		}
	}
	if alike < 50 || alike > 550 {
		t.Errorf("%d read the same", alike)
	}
}

// What changes a sound is a machine.
func TestSoundsAreMachines(t *testing.T) { // C4
	d := draw(2)
	for range 200 {
		c := d.change(1 + d.n(3))
		m, e := sound.Net(c)
		ok(t, c, e)
		for _, text := range append(texts(c.Kinds, 4), d.text(10, 20, c.Kinds)) {
			want, e := sound.Apply(c, text)
			both, f := machine.Through(line(text), m)
			small, g := machine.Sure(line(want))
			ok(t, c, e, f, g)
			if written := writes(t, both); !same(written, small) {
				t.Fatalf("%v of %v: %v, not %v", c, text, written, want)
			}
		}
	}
}

// Who makes a form reads it.
func TestFormsAreReadBack(t *testing.T) { // D4
	d := draw(3)
	for range 400 {
		l := d.lexicon()
		made := map[api.Reading][]int{}
		for stem := range l.Stems {
			for cell := range l.Cells {
				if form, e := forms.Make(l, stem, cell); e == api.OK {
					made[api.Reading{Stem: stem, Cell: cell}] = form
				}
			}
		}
		for _, form := range made {
			readings, e := forms.Read(l, form)
			ok(t, l, e)
			for r, other := range made {
				if slices.Contains(readings, r) != slices.Equal(form, other) {
					t.Fatalf("%v: %v is read as %v", l, form, readings)
				}
			}
		}
	}
}

// teacher knows the texts of a plain machine, and counts.
type teacher struct {
	t                  *testing.T
	knows              api.Machine
	has, asks, longest int
}

func (x *teacher) Has(text []int) bool {
	x.has++
	return reads(x.t, x.knows, text)
}

func (x *teacher) Apart(m api.Machine) ([]int, bool) {
	x.asks++
	text, apart, e := machine.Apart(m, x.knows)
	ok(x.t, m, e)
	x.longest = max(x.longest, len(text))
	return text, apart
}

// held asks for what the teacher knows, and counts the questions.
func (x *teacher) held(kinds int) {
	x.t.Helper()
	want, e := machine.Sure(x.knows)
	ok(x.t, x.knows, e)
	m, e := learn.Learn(kinds, x)
	if want.States > api.MaxLearn {
		if e != api.ErrMany || !same(m, api.Machine{}) {
			x.t.Fatalf("%v is learnt: %v %d", want, m, e)
		}
		return
	}
	n := want.States + 1
	if !same(m, want) || e != api.OK || x.asks > n || x.has > (kinds+1)*n*n+n*(x.longest+2) {
		x.t.Fatalf("%v is learnt: %v %d, by %d and %d questions", want, m, e, x.asks, x.has)
	}
}

// A machine is learnt by so many questions and no more.
func TestMachinesAreLearnt(t *testing.T) { // N2
	d := draw(4)
	for range 500 {
		kinds := 1 + d.n(4)
		x := &teacher{t: t, knows: d.plain(5, 4*kinds, kinds)}
		x.held(kinds)
	}
}

// THE WHOLE: what the machines of sound changes write of what stands behind a
// form is the form, and nothing else, and what they read of it back is just such.
func TestFormsAreMachines(t *testing.T) {
	d := draw(5)
	several := 0
	for range 150 {
		l := d.lexicon()
		nets, e := sound.Nets(l.Changes)
		back, f := machine.Turn(nets)
		ok(t, l, e, f)
		for stem, s := range l.Stems {
			for cell, c := range l.Cells {
				form, e := forms.Make(l, stem, cell)
				if s.Class != c.Class {
					continue
				}
				base := slices.Concat(c.Before, s.Form, c.Behind)
				both, f := machine.Through(line(base), nets)
				small, g := machine.Sure(line(form))
				ok(t, l, e, f, g)
				if written := writes(t, both); !same(written, small) {
					t.Fatalf("%v: of %v is written %v, not %v", l, base, written, form)
				}
				if outs, e := machine.Outs(nets, base, api.MaxOuts); e != api.OK || len(form) <= api.MaxOuts && (len(outs) != 1 || !slices.Equal(outs[0], form)) || len(form) > api.MaxOuts && len(outs) > 0 {
					t.Fatalf("%v: of %v is written %v %d, not %v", l, base, outs, e, form)
				}
				behind, e := machine.Through(line(form), back)
				ok(t, l, e)
				if !reads(t, writes(t, behind), base) {
					t.Fatalf("%v: of %v is not read %v", l, form, base)
				}
				if readBack(t, l, back, form) {
					several++
				}
			}
		}
	}
	if several < 100 {
		t.Errorf("only %d forms come of several texts", several)
	}
}

// readBack holds what is read of a form back against all short texts; it tells whether these are several.
func readBack(t *testing.T, l api.Lexicon, back api.Machine, form []int) bool {
	t.Helper()
	long := []int{0, 8, 5, 4, 4}[l.Kinds]
	read, e := machine.Outs(back, form, long)
	ok(t, l, e)
	for _, text := range texts(l.Kinds, long) {
		sounds, e := sound.All(l.Changes, text)
		ok(t, l, e)
		if has(read, text) != slices.Equal(sounds, form) {
			t.Fatalf("%v: of %v is read %v; %v sounds %v", l, form, read, text, sounds)
		}
	}
	return len(read) > 1
}

// THE WHOLE: what comes of a sound change can be learnt by asking.
func TestSoundsAreLearnt(t *testing.T) {
	d := draw(6)
	sizes := map[int]int{}
	for range 300 {
		c := d.change(1 + d.n(4))
		net, e := sound.Net(c)
		ok(t, c, e)
		x := &teacher{t: t, knows: writes(t, net)}
		x.held(c.Kinds)
		sizes[x.knows.States]++
		m, e := learn.Learn(c.Kinds, x)
		ok(t, c, e)
		short := coming(t, c, 3, 6)
		for _, text := range texts(c.Kinds, 3) {
			if reads(t, m, text) != has(short, text) {
				t.Fatalf("%v: that %v comes was learnt as %v", c, text, reads(t, m, text))
			}
		}
	}
	if len(sizes) < 4 {
		t.Errorf("only so many states: %v", sizes)
	}
}

// coming has the texts of at most so many symbols that come of those of at
// most so many. (Of what is drawn here nothing short comes of longer ones alone.)
func coming(t *testing.T, c api.Change, short, long int) [][]int {
	t.Helper()
	var all [][]int
	for _, text := range texts(c.Kinds, long) {
		sounds, e := sound.Apply(c, text)
		ok(t, c, e)
		if len(sounds) <= short && !has(all, sounds) {
			all = append(all, sounds)
		}
	}
	return all
}
