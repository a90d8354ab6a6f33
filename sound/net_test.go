package sound

import (
	"cmp"
	"slices"
	"testing"

	"wordhoard/api"
	"wordhoard/machine"
)

func reach(kinds int) int { return []int{0, 8, 6, 4, 3}[kinds] }

// holdNet holds a machine against what is to be written of each text.
func holdNet(t *testing.T, m api.Machine, l []api.Change, texts [][]int) {
	t.Helper()
	if e := machine.Check(m); e != api.OK {
		t.Fatalf("the machine of %v: %d", l, e)
	}
	if slices.ContainsFunc(m.Arcs, func(a api.Arc) bool { return a.W != 0 }) || slices.ContainsFunc(m.Finals, func(f api.Final) bool { return f.W != 0 }) {
		t.Fatalf("the machine of %v costs something", l)
	}
	for _, text := range texts {
		want := slowAll(l, text)
		outs, e := machine.Outs(m, text, api.MaxOuts)
		few := len(want) <= api.MaxOuts
		if e != api.OK || few && (len(outs) != 1 || !slices.Equal(outs[0], want)) || !few && len(outs) != 0 {
			t.Fatalf("%v of %v: Outs %v %d, want %v", l, text, outs, e, want)
		}
		if len(want) > api.MaxWalk {
			continue
		}
		if cost, ok, e := machine.Cost(m, text, want); cost != 0 || !ok || e != api.OK {
			t.Fatalf("%v of %v: Cost %d %v %d", l, text, cost, ok, e)
		}
	}
}

// holdOthers sees to it that texts with other symbols are not read.
func holdOthers(t *testing.T, m api.Machine, kinds int) {
	t.Helper()
	if slices.ContainsFunc(m.Arcs, func(a api.Arc) bool { return a.In > kinds || a.Out > kinds }) {
		t.Fatalf("a machine of %d kinds has another symbol: %v", kinds, m)
	}
	for _, text := range [][]int{{kinds + 1}, {1, kinds + 1}, {60}} {
		if outs, e := machine.Outs(m, text, api.MaxOuts); len(outs) != 0 || e != api.OK {
			t.Fatalf("a machine of %d kinds reads %v: %v %d", kinds, text, outs, e)
		}
	}
}

func TestNet(t *testing.T) { // C3
	d := new(draw)
	for range 1500 {
		kinds := 1 + d.n(4)
		c := d.change(kinds)
		m, e := Net(c)
		if e != api.OK {
			t.Fatalf("Net of %v: %d", c, e)
		}
		holdNet(t, m, []api.Change{c}, append(words(kinds, reach(kinds)), d.text(0, 60, kinds), d.text(60, 60, kinds)))
		holdOthers(t, m, kinds)
		text := d.text(0, 30, kinds)
		other := d.text(0, 60, kinds)
		if _, ok, e := machine.Cost(m, text, other); e != api.OK || ok != slices.Equal(other, slowApply(c, text)) {
			t.Fatalf("Net of %v: %v becomes %v: %v %d", c, text, other, ok, e)
		}
	}
}

func TestNets(t *testing.T) { // C3, C4
	d := new(draw)
	for range 600 {
		kinds := 1 + d.n(4)
		l := d.changes(1+d.n(3), kinds)
		m, e := Nets(l)
		if e != api.OK {
			t.Fatalf("Nets of %v: %d", l, e)
		}
		holdNet(t, m, l, append(words(kinds, reach(kinds)-1), d.text(0, 15, kinds), d.text(60, 60, kinds)))
		holdOthers(t, m, kinds)
	}
}

func TestNetsAreNetsThroughOneAnother(t *testing.T) { // C4
	d := new(draw)
	for range 200 {
		l := d.changes(2, 2)
		m, e := Nets(l)
		a, f := Net(l[0])
		b, g := Net(l[1])
		both, h := machine.Through(a, b)
		if e != api.OK || f != api.OK || g != api.OK || h != api.OK {
			t.Fatalf("%v: %d %d %d %d", l, e, f, g, h)
		}
		for _, text := range words(2, 4) {
			x, _ := machine.Outs(m, text, api.MaxOuts)
			y, _ := machine.Outs(both, text, api.MaxOuts)
			if !slices.EqualFunc(x, y, slices.Equal) {
				t.Fatalf("%v of %v: %v, %v", l, text, x, y)
			}
		}
	}
}

func TestNetsReadBack(t *testing.T) { // C3 and THE WHOLE: of what is written, just what it comes of is read back
	d := new(draw)
	for range 150 {
		l := d.changes(1+d.n(3), 2)
		m, e := Nets(l)
		back, f := machine.Turn(m)
		if e != api.OK || f != api.OK {
			t.Fatalf("%v: %d %d", l, e, f)
		}
		texts := words(2, 5)
		form := slowAll(l, texts[d.n(len(texts))])
		var want [][]int
		for _, text := range texts {
			if slices.Equal(slowAll(l, text), form) {
				want = append(want, text)
			}
		}
		got, e := machine.Outs(back, form, 5)
		if e != api.OK || !slices.EqualFunc(got, want, slices.Equal) {
			t.Fatalf("%v: of %v is read %v %d, want %v", l, form, got, e, want)
		}
	}
}

func TestNetOfAnyChangeIsSmall(t *testing.T) { // C3: never too many for one change
	d := new(draw)
	most := api.Machine{}
	for range 30000 {
		c := d.change(4)
		m, e := Net(c)
		n, f := Nets([]api.Change{c})
		if e != api.OK || f != api.OK || n.States != m.States {
			t.Fatalf("%v: %d %d", c, e, f)
		}
		most = slices.MaxFunc([]api.Machine{most, m}, func(a, b api.Machine) int { return cmp.Compare(a.States, b.States) })
	}
	if most.States > 40 || len(most.Arcs) > 100 {
		t.Errorf("%d states, %d arcs", most.States, len(most.Arcs))
	}
}
