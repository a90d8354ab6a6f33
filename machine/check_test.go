package machine

import (
	"math"
	"testing"

	"wordhoard/api"
)

func manyFinals(n int) []api.Final {
	var finals []api.Final
	for s := range n {
		finals = append(finals, api.Final{State: s})
	}
	return finals
}

// A wrong (or right) machine, and what Check tells of it.
type verdict struct {
	name string
	m    api.Machine
	want api.Errno
}

func verdicts() []verdict {
	arc := func(a api.Arc) api.Machine { return api.Machine{States: 2, Arcs: []api.Arc{{}, a}} }
	final := func(f ...api.Final) api.Machine { return api.Machine{States: 2, Finals: f} }
	return []verdict{
		{"one state", api.Machine{States: 1}, api.OK},
		{"most states, each final", api.Machine{States: 3000, Finals: manyFinals(3000)}, api.OK},
		{"most arcs", api.Machine{States: 1, Arcs: make([]api.Arc, 20000)}, api.OK},
		{"most of all", arc(api.Arc{From: 1, To: 1, In: 60, Out: 60, W: 1000000}), api.OK},
		{"dearest final", final(api.Final{State: 1, W: 1000000}), api.OK},
		{"no state", api.Machine{}, api.ErrMany},
		{"fewer states", api.Machine{States: -1}, api.ErrMany},
		{"fewest states", api.Machine{States: math.MinInt}, api.ErrMany},
		{"more states", api.Machine{States: 3001}, api.ErrMany},
		{"no end of states", api.Machine{States: math.MaxInt}, api.ErrMany},
		{"more arcs", api.Machine{States: 1, Arcs: make([]api.Arc, 20001)}, api.ErrMany},
		{"more finals than states", final(api.Final{}, api.Final{State: 1}, api.Final{State: 1}), api.ErrMany},
		{"many ahead of range", api.Machine{States: 1, Arcs: []api.Arc{{In: 61}}, Finals: manyFinals(2)}, api.ErrMany},
		{"from none", arc(api.Arc{From: 2}), api.ErrRange},
		{"from below", arc(api.Arc{From: -1}), api.ErrRange},
		{"to none", arc(api.Arc{To: 2}), api.ErrRange},
		{"to below", arc(api.Arc{To: math.MinInt}), api.ErrRange},
		{"reads more", arc(api.Arc{In: 61}), api.ErrRange},
		{"reads less", arc(api.Arc{In: -1}), api.ErrRange},
		{"writes more", arc(api.Arc{Out: math.MaxInt}), api.ErrRange},
		{"writes less", arc(api.Arc{Out: -1}), api.ErrRange},
		{"costs more", arc(api.Arc{W: 1000001}), api.ErrRange},
		{"costs less", arc(api.Arc{W: -1}), api.ErrRange},
		{"final none", final(api.Final{State: 2}), api.ErrRange},
		{"final below", final(api.Final{State: -1}), api.ErrRange},
		{"final costs more", final(api.Final{W: 1000001}), api.ErrRange},
		{"final costs less", final(api.Final{W: -1}), api.ErrRange},
		{"final twice", final(api.Final{State: 1}, api.Final{State: 1, W: 1}), api.ErrTwice},
		{"range ahead of twice", final(api.Final{State: 2}, api.Final{State: 2}), api.ErrRange},
		{"a cost ahead of twice", final(api.Final{}, api.Final{W: -1}), api.ErrRange},
	}
}

func TestCheck(t *testing.T) { // B1
	for _, v := range verdicts() {
		if got := Check(v.m); got != v.want {
			t.Errorf("%s: %d, want %d", v.name, got, v.want)
		}
	}
}

func TestAllTellFirstWhatCheckTells(t *testing.T) { // B1, P1
	long := make([]int, 61)
	good := line(1, 1)
	dear := api.Machine{States: 1, Arcs: []api.Arc{{In: 1}}} // not plain
	for _, v := range verdicts() {
		if v.want == api.OK {
			continue
		}
		if cost, ok, e := Cost(v.m, long, long); cost != 0 || ok || e != v.want {
			t.Errorf("Cost, %s: %d %v %d", v.name, cost, ok, e)
		}
		if l, e := Outs(v.m, long, -1); len(l) != 0 || e != v.want {
			t.Errorf("Outs, %s: %v %d", v.name, l, e)
		}
		for name, call := range oneHanded() {
			if m, e := call(v.m); !isZero(m) || e != v.want {
				t.Errorf("%s, %s: %v %d", name, v.name, m, e)
			}
		}
		for name, call := range twoHanded() {
			for _, other := range []api.Machine{good, dear} {
				if m, e := call(v.m, other); !isZero(m) || e != v.want {
					t.Errorf("%s, %s: %v %d", name, v.name, m, e)
				}
				if m, e := call(other, v.m); !isZero(m) || e != v.want {
					t.Errorf("%s, second %s: %v %d", name, v.name, m, e)
				}
			}
			for _, w := range verdicts() {
				if _, e := call(v.m, w.m); e != v.want {
					t.Errorf("%s, %s, second %s: %d", name, v.name, w.name, e)
				}
			}
		}
	}
}

func oneHanded() map[string]func(api.Machine) (api.Machine, api.Errno) {
	return map[string]func(api.Machine) (api.Machine, api.Errno){"Repeat": Repeat, "Turn": Turn, "Side": Side, "Sure": Sure}
}

// twoHanded has Apart too: with an error it must tell no text, and so no machine here.
func twoHanded() map[string]func(a, b api.Machine) (api.Machine, api.Errno) {
	apart := func(a, b api.Machine) (api.Machine, api.Errno) {
		text, ok, e := Apart(a, b)
		if e != api.OK && (ok || len(text) > 0) {
			return api.Machine{States: 1}, e
		}
		return api.Machine{}, e
	}
	return map[string]func(a, b api.Machine) (api.Machine, api.Errno){"Either": Either, "Chain": Chain, "Through": Through, "Apart": apart}
}

func TestNothingPanics(t *testing.T) { // P1
	d := new(draw)
	odd := []int{-1, 0, 1, 2, 3, 60, 61, 2999, 3000, math.MinInt, math.MaxInt}
	pick := func() int { return odd[d.n(len(odd))] }
	wild := func() api.Machine {
		m := api.Machine{States: pick()}
		for range d.n(4) {
			m.Arcs = append(m.Arcs, api.Arc{From: d.n(2), To: d.n(2), In: pick(), Out: d.n(3), W: d.n(2)})
		}
		for range d.n(3) {
			m.Finals = append(m.Finals, api.Final{State: d.n(3)})
		}
		return m
	}
	for range 2000 {
		a, b := wild(), wild()
		in, out := []int{pick(), 1}, []int{pick()}
		if cost, ok, e := Cost(a, in, out); (e != api.OK || !ok) && cost != 0 || e != api.OK && ok {
			t.Fatalf("Cost of %v: %d %v %d", a, cost, ok, e)
		}
		if l, e := Outs(a, in, pick()); e != api.OK && len(l) > 0 {
			t.Fatalf("Outs of %v: %v %d", a, l, e)
		}
		for name, call := range oneHanded() {
			if m, e := call(a); e != api.OK && !isZero(m) || e == api.OK && Check(m) != api.OK {
				t.Fatalf("%s of %v: %v %d", name, a, m, e)
			}
		}
		for name, call := range twoHanded() {
			if m, e := call(a, b); e != api.OK && !isZero(m) || e == api.OK && name != "Apart" && Check(m) != api.OK {
				t.Fatalf("%s of %v, %v: %v %d", name, a, b, m, e)
			}
		}
	}
}
