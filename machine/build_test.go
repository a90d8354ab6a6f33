package machine

import (
	"testing"

	"wordhoard/api"
)

// A price is a least cost, or none.
type price struct {
	cost int
	ok   bool
}

func (p price) plus(q price) price {
	if !p.ok || !q.ok {
		return price{}
	}
	return price{p.cost + q.cost, true}
}

func (p price) or(q price) price {
	if !p.ok || q.ok && q.cost < p.cost {
		return q
	}
	return p
}

func priceOf(m api.Machine, in, out []int) price {
	cost, ok := slowCost(m, in, out)
	return price{cost, ok}
}

// wanted tells by their definitions what the machines cost that are built of a and b.
type wanted struct{ a, b api.Machine }

func (w wanted) either(in, out []int) price { return priceOf(w.a, in, out).or(priceOf(w.b, in, out)) }

func (w wanted) chain(in, out []int) price {
	var best price
	for i := 0; i <= len(in); i++ {
		for j := 0; j <= len(out); j++ {
			best = best.or(priceOf(w.a, in[:i], out[:j]).plus(priceOf(w.b, in[i:], out[j:])))
		}
	}
	return best
}

func (w wanted) repeat(in, out []int) price {
	var best price
	if len(in) == 0 && len(out) == 0 {
		return price{0, true}
	}
	for i := 0; i <= len(in); i++ {
		for j := 0; j <= len(out); j++ {
			if i+j > 0 {
				best = best.or(priceOf(w.a, in[:i], out[:j]).plus(w.repeat(in[i:], out[j:])))
			}
		}
	}
	return best
}

func (w wanted) turn(in, out []int) price { return priceOf(w.a, out, in) }

// side asks a machine that writes nothing at all, so that what a writes is all the same.
func (w wanted) side(in, out []int) price {
	mute := api.Machine{States: w.a.States, Finals: w.a.Finals}
	for _, arc := range w.a.Arcs {
		arc.Out = 0
		mute.Arcs = append(mute.Arcs, arc)
	}
	if byLength(in, out) != 0 {
		return price{}
	}
	return priceOf(mute, in, nil)
}

// through tries all texts of 1 between a and b that a walk without needless rounds can have.
func (w wanted) through(in, out []int) price {
	var best price
	var middle []int
	for range w.a.States*w.b.States*(len(in)+1)*(len(out)+1) + 1 {
		best = best.or(priceOf(w.a, in, middle).plus(priceOf(w.b, middle, out)))
		middle = append(middle, 1)
	}
	return best
}

func compare(t *testing.T, name string, m api.Machine, e api.Errno, want func(in, out []int) price, long int) int {
	t.Helper()
	if e != api.OK || Check(m) != api.OK {
		t.Fatalf("%s: %d, and %d by Check", name, e, Check(m))
	}
	found := 0
	for _, in := range words(2, long) {
		for _, out := range words(2, long) {
			cost, ok := mustCost(t, m, in, out)
			if w := want(in, out); w != (price{cost, ok}) {
				t.Fatalf("%s %v reads %v and writes %v: %d %v, want %v", name, m, in, out, cost, ok, w)
			}
			if ok {
				found++
			}
		}
	}
	return found
}

func TestBuiltMachines(t *testing.T) { // B3
	d := new(draw)
	found := [5]int{}
	for range 150 {
		k := mould{states: 3, arcs: 7, symbols: 2, cost: 5}
		w := wanted{d.machine(k), d.machine(k)}
		m, e := Either(w.a, w.b)
		found[0] += compare(t, "Either", m, e, w.either, 2)
		m, e = Chain(w.a, w.b)
		found[1] += compare(t, "Chain", m, e, w.chain, 2)
		m, e = Repeat(w.a)
		found[2] += compare(t, "Repeat", m, e, w.repeat, 2)
		m, e = Turn(w.a)
		found[3] += compare(t, "Turn", m, e, w.turn, 2)
		m, e = Side(w.a)
		found[4] += compare(t, "Side", m, e, w.side, 2)
	}
	for i, n := range found {
		if n < 100 {
			t.Errorf("built machine %d has only %d walks", i, n)
		}
	}
}

func TestThrough(t *testing.T) { // B3
	d := new(draw)
	found := 0
	for range 150 {
		k := mould{states: 2, arcs: 6, symbols: 2, cost: 5}
		w := wanted{d.machine(k), d.machine(k)}
		for i := range w.a.Arcs {
			w.a.Arcs[i].Out = min(w.a.Arcs[i].Out, 1)
		}
		for i := range w.b.Arcs {
			w.b.Arcs[i].In = min(w.b.Arcs[i].In, 1)
		}
		m, e := Through(w.a, w.b)
		found += compare(t, "Through", m, e, w.through, 1)
	}
	if found < 100 {
		t.Errorf("only %d walks", found)
	}
}

func TestThroughKeepsSymbolsApart(t *testing.T) { // B3
	a := api.Machine{States: 1, Finals: []api.Final{{W: 1}}, Arcs: []api.Arc{{In: 1, Out: 2, W: 1}, {In: 2, Out: 3, W: 2}, {In: 3}, {Out: 60, W: 9}}}
	b := api.Machine{States: 1, Finals: []api.Final{{W: 2}}, Arcs: []api.Arc{{In: 2, Out: 4, W: 10}, {In: 3, Out: 5, W: 20}, {In: 60, Out: 6}, {Out: 7, W: 30}}}
	m, e := Through(a, b)
	if e != api.OK {
		t.Fatal(e)
	}
	for _, x := range []struct {
		in, out []int
		want    price
	}{{nil, nil, price{3, true}}, {[]int{1, 2}, []int{4, 5}, price{36, true}}, {[]int{1, 2}, []int{5, 4}, price{}}, {[]int{3}, nil, price{3, true}},
		{[]int{3}, []int{6, 7, 6}, price{51, true}}, {[]int{1}, []int{2}, price{}}} {
		if cost, ok := mustCost(t, m, x.in, x.out); x.want != (price{cost, ok}) {
			t.Errorf("%v %v: %d %v, want %v", x.in, x.out, cost, ok, x.want)
		}
	}
}

// smallest draws a machine that has as much as one may have that is sure to be built with.
func (d *draw) smallest(label func() (int, int)) api.Machine {
	m := api.Machine{States: 20}
	for range 40 {
		in, out := label()
		m.Arcs = append(m.Arcs, api.Arc{From: d.n(20), To: d.n(20), In: in, Out: out, W: 500000})
	}
	for s := range 20 {
		m.Finals = append(m.Finals, api.Final{State: s, W: 500000})
	}
	return m
}

func TestSmallMachinesCanBeBuiltWith(t *testing.T) { // B3
	d := new(draw)
	for _, label := range []func() (int, int){
		func() (int, int) { return 1, 1 },
		func() (int, int) { return 0, 0 },
		func() (int, int) { return 0, 1 },
		func() (int, int) { return 1, 0 },
		func() (int, int) { return d.n(61), 1 },
		func() (int, int) { return d.n(2), d.n(2) },
		func() (int, int) { return d.n(61), d.n(61) },
	} {
		for range 20 {
			a, b := d.smallest(label), d.smallest(label)
			if d.n(2) == 0 { // all arcs from one state
				for i := range a.Arcs {
					a.Arcs[i].From, b.Arcs[i].From = 0, 0
				}
			}
			turned, e := Turn(b)
			if e != api.OK {
				t.Fatal(e)
			}
			for name, call := range twoHanded() {
				if name == "Apart" {
					continue
				}
				for _, c := range []api.Machine{b, turned} {
					if m, e := call(a, c); e != api.OK || Check(m) != api.OK {
						t.Fatalf("%s: %d, and %d by Check", name, e, Check(m))
					}
				}
			}
			for name, call := range oneHanded() {
				if m, e := call(a); name != "Sure" && (e != api.OK || Check(m) != api.OK) {
					t.Fatalf("%s: %d, and %d by Check", name, e, Check(m))
				}
			}
		}
	}
}

func TestTooManyToBuild(t *testing.T) { // B3: where no machine could be right and small enough
	if m, e := Either(line(1, 2999), line(2, 2999)); e != api.ErrMany || !isZero(m) {
		t.Errorf("Either: %d", e)
	}
	if m, e := Chain(line(1, 2999), line(2, 2999)); e != api.ErrMany || !isZero(m) {
		t.Errorf("Chain: %d", e)
	}
	if m, e := Through(ring(59), ring(60)); e != api.ErrMany || !isZero(m) {
		t.Errorf("Through: %d", e)
	}
	if m, e := Through(ring(50), ring(60)); e != api.OK || m.States != 300 {
		t.Errorf("Through of rings that share much: %d %d", m.States, e)
	}
	if m, e := Through(ring(3000), line(1, 2999)); e != api.OK || Check(m) != api.OK {
		t.Errorf("Through of which nothing comes: %d %d", m.States, e)
	}
}

// loops is a machine of one state with an arc for each two symbols.
func loops(in, out int) api.Machine {
	m := api.Machine{States: 1, Finals: []api.Final{{}}}
	for i := 1; i <= in; i++ {
		for o := 1; o <= out; o++ {
			m.Arcs = append(m.Arcs, api.Arc{In: i, Out: o, W: i + o})
		}
	}
	return m
}

func TestThroughOfManyArcs(t *testing.T) { // B3
	m, e := Through(loops(60, 60), loops(60, 60))
	if e != api.OK {
		t.Fatal(e)
	}
	if cost, ok := mustCost(t, m, []int{7}, []int{9}); !ok || cost != 7+1+1+9 {
		t.Errorf("the cheapest way between: %d %v", cost, ok)
	}
	wide := func(turned bool) api.Machine { // each state can do all with each symbol, to one state or another one
		m := api.Machine{States: 20}
		for s := range 20 {
			m.Finals = append(m.Finals, api.Final{State: s})
			for c := range 60 {
				for k := range 10 {
					arc := api.Arc{From: s, To: (s + k) % 20, In: c + 1, Out: 1}
					if turned {
						arc.In, arc.Out = 1, c+1
					}
					m.Arcs = append(m.Arcs, arc)
				}
			}
		}
		return m
	}
	if m, e := Through(wide(false), wide(true)); e != api.ErrMany || !isZero(m) {
		t.Errorf("all to all: %d", e)
	}
}

func TestTooDearToBuild(t *testing.T) { // B3
	arc := func(w int) api.Machine {
		m := line(1, 1)
		m.Arcs[0].W = w
		return m
	}
	end := func(w int) api.Machine {
		m := line(1, 1)
		m.Finals[0].W = w
		return m
	}
	for _, f := range []func(int) api.Machine{arc, end} {
		if m, e := Through(f(400000), f(600000)); e != api.OK || Check(m) != api.OK {
			t.Errorf("just enough: %v %d", m, e)
		}
		if m, e := Through(f(400001), f(600000)); e != api.ErrRange || !isZero(m) {
			t.Errorf("one too much: %v %d", m, e)
		}
	}
	cheap := arc(1000000)
	cheap.Arcs = append(cheap.Arcs, api.Arc{From: 0, To: 1, In: 1, Out: 1, W: 3})
	m, e := Through(cheap, arc(5))
	if e != api.OK {
		t.Fatalf("a dear arc beside a cheap one: %d", e)
	}
	if cost, ok := mustCost(t, m, []int{1}, []int{1}); !ok || cost != 8 {
		t.Errorf("a dear arc beside a cheap one: %d %v", cost, ok)
	}
}

func TestTurnsTurn(t *testing.T) { // B6
	d := new(draw)
	for range 200 {
		a := d.machine(mould{states: 4, arcs: 10, symbols: 2, cost: 5})
		m, e := Turn(a)
		if e != api.OK {
			t.Fatal(e)
		}
		m, e = Turn(m)
		compare(t, "Turn of Turn", m, e, wanted{a, a}.first, 2)
	}
}

func (w wanted) first(in, out []int) price { return priceOf(w.a, in, out) }
