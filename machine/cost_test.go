package machine

import (
	"slices"
	"testing"

	"wordhoard/api"
)

func TestCostIsTheLeast(t *testing.T) { // B2
	d := new(draw)
	found := 0
	for range 4000 {
		m := d.machine(mould{states: 4, arcs: 10, symbols: 2, cost: 5})
		all := words(2, 3)
		in, out := all[d.n(len(all))], all[d.n(len(all))]
		cost, ok := mustCost(t, m, in, out)
		slow, has := slowCost(m, in, out)
		if cost != slow || ok != has {
			t.Fatalf("Cost of %v, %v, %v: %d %v, want %d %v", m, in, out, cost, ok, slow, has)
		}
		if ok {
			found++
		}
	}
	if found < 200 {
		t.Errorf("only %d walks", found)
	}
}

func TestCostOfRingsOfNothing(t *testing.T) { // B2: arcs that neither read nor write, dear and cheap, in rings
	m := api.Machine{States: 4, Arcs: []api.Arc{
		{From: 0, To: 1, W: 9}, {From: 0, To: 2, W: 1}, {From: 2, To: 3, W: 1}, {From: 3, To: 1, W: 1}, {From: 1, To: 0},
		{From: 1, To: 1, In: 1, W: 7}, {From: 1, To: 2, Out: 1, W: 4}, {From: 3, To: 3}},
		Finals: []api.Final{{State: 1, W: 2}}}
	for _, x := range []struct {
		in, out []int
		want    int
	}{{nil, nil, 5}, {[]int{1}, nil, 12}, {nil, []int{1}, 3 + 4 + 2 + 2}, {[]int{1, 1}, []int{1}, 3 + 14 + 4 + 2 + 2}} {
		if cost, ok := mustCost(t, m, x.in, x.out); !ok || cost != x.want {
			t.Errorf("%v %v: %d %v, want %d", x.in, x.out, cost, ok, x.want)
		}
	}
}

func TestCostEdges(t *testing.T) { // B2
	most := slices.Repeat([]int{60}, 60)
	m := api.Machine{States: 1, Arcs: []api.Arc{{In: 60, Out: 60, W: 1000000}}, Finals: []api.Final{{W: 1000000}}}
	if cost, ok := mustCost(t, m, most, most); !ok || cost != 61000000 {
		t.Errorf("the longest texts: %d %v", cost, ok)
	}
	one := api.Machine{States: 2, Arcs: []api.Arc{{From: 0, To: 1, In: 1, Out: 2, W: 3}}, Finals: []api.Final{{State: 1}}}
	if cost, ok := mustCost(t, one, []int{1}, []int{2}); !ok || cost != 3 {
		t.Errorf("the document's example: %d %v", cost, ok)
	}
	zeros, long := make([]int, 61), slices.Repeat([]int{1}, 61)
	for _, x := range []struct {
		in, out []int
		want    api.Errno
	}{{long, nil, api.ErrLong}, {nil, long, api.ErrLong}, {zeros, nil, api.ErrLong}, {[]int{0}, zeros, api.ErrLong},
		{[]int{0}, nil, api.ErrRange}, {nil, []int{0}, api.ErrRange}, {[]int{1, 61}, nil, api.ErrRange}, {[]int{1}, []int{1, -1}, api.ErrRange}} {
		if cost, ok, e := Cost(one, x.in, x.out); cost != 0 || ok || e != x.want {
			t.Errorf("%v %v: %d %v %d, want %d", x.in, x.out, cost, ok, e, x.want)
		}
	}
}

func TestOutsAreAll(t *testing.T) { // B2
	d := new(draw)
	told := 0
	for range 4000 {
		m := d.machine(mould{states: 4, arcs: 9, symbols: 2, cost: 1})
		all := words(2, 3)
		in, long := all[d.n(len(all))], d.n(4)
		var want [][]int
		for _, out := range words(2, long) {
			if _, ok := slowCost(m, in, out); ok {
				want = append(want, out)
			}
		}
		got, e := Outs(m, in, long)
		if e != api.OK || !slices.EqualFunc(got, want, slices.Equal) {
			t.Fatalf("Outs of %v, %v, %d: %v %d, want %v", m, in, long, got, e, want)
		}
		told += len(got)
	}
	if told < 1000 {
		t.Errorf("only %d told", told)
	}
}

// grid writes one of so many symbols, and then one of so many.
func grid(first, second int) api.Machine {
	m := api.Machine{States: 3, Finals: []api.Final{{State: 2}}}
	for c := 1; c <= first; c++ {
		m.Arcs = append(m.Arcs, api.Arc{From: 0, To: 1, Out: c})
	}
	for c := 1; c <= second; c++ {
		m.Arcs = append(m.Arcs, api.Arc{From: 1, To: 2, Out: c}, api.Arc{From: 1, To: 2, Out: c, W: 5})
	}
	return m
}

func TestOutsMany(t *testing.T) { // B2
	l, e := Outs(grid(20, 25), nil, 8)
	if len(l) != 500 || e != api.OK || !slices.IsSortedFunc(l, byLength) {
		t.Errorf("just enough: %d %d", len(l), e)
	}
	more := grid(20, 25)
	more.Arcs = append(more.Arcs, api.Arc{From: 0, To: 2, Out: 60})
	if l, e := Outs(more, nil, 2); len(l) != 0 || e != api.ErrMany {
		t.Errorf("one too many: %d %d", len(l), e)
	}
	if l, e := Outs(more, nil, 1); len(l) != 1 || e != api.OK {
		t.Errorf("many that are too long: %d %d", len(l), e)
	}
	if l, e := Outs(grid(60, 60), []int{1}, 8); len(l) != 0 || e != api.OK {
		t.Errorf("many beginnings of nothing: %d %d", len(l), e)
	}
	deep := grid(30, 20)
	deep.States++
	deep.Arcs = append(deep.Arcs, api.Arc{From: 2, To: 3, Out: 1}, api.Arc{From: 0, To: 3, Out: 60})
	deep.Finals = []api.Final{{State: 3}}
	if l, e := Outs(deep, nil, 2); !slices.EqualFunc(l, [][]int{{60}}, slices.Equal) || e != api.OK {
		t.Errorf("many beginnings of what is too long: %v %d", l, e)
	}
	all := api.Machine{States: 1, Finals: []api.Final{{}}}
	for c := 1; c <= 60; c++ {
		all.Arcs = append(all.Arcs, api.Arc{Out: c})
	}
	if l, e := Outs(all, nil, 8); len(l) != 0 || e != api.ErrMany {
		t.Errorf("no end of them: %d %d", len(l), e)
	}
	if l, e := Outs(all, nil, 1); len(l) != 61 || e != api.OK {
		t.Errorf("of one symbol: %d %d", len(l), e)
	}
}

func TestOutsEdges(t *testing.T) { // B2
	one := api.Machine{States: 2, Arcs: []api.Arc{{From: 0, To: 1, In: 1, Out: 2, W: 3}, {From: 1, To: 1}}, Finals: []api.Final{{State: 1}}}
	if l, e := Outs(one, []int{1}, 2); e != api.OK || !slices.EqualFunc(l, [][]int{{2}}, slices.Equal) {
		t.Errorf("the document's example: %v %d", l, e)
	}
	if l, e := Outs(one, []int{1}, 0); e != api.OK || len(l) != 0 {
		t.Errorf("of no symbols: %v %d", l, e)
	}
	most := slices.Repeat([]int{1}, 60)
	drop := api.Machine{States: 1, Arcs: []api.Arc{{In: 1}, {In: 1, Out: 60}}, Finals: []api.Final{{}}}
	if l, e := Outs(drop, most, 8); e != api.OK || len(l) != 9 {
		t.Errorf("of the longest text: %v %d", l, e)
	}
	for _, x := range []struct {
		in   []int
		long int
		want api.Errno
	}{{append(most, 1), 1, api.ErrLong}, {make([]int, 61), 1, api.ErrLong}, {nil, -1, api.ErrLong}, {nil, 9, api.ErrLong}, {[]int{0}, 9, api.ErrLong},
		{[]int{0}, 1, api.ErrRange}, {[]int{1, 61}, 1, api.ErrRange}, {[]int{-1}, 0, api.ErrRange}} {
		if l, e := Outs(one, x.in, x.long); len(l) != 0 || e != x.want {
			t.Errorf("%v %d: %v %d, want %d", x.in, x.long, l, e, x.want)
		}
	}
}

func TestGreatestMachines(t *testing.T) { // P1, P4: the greatest machines that may be
	d := new(draw)
	great := func() api.Machine {
		m := api.Machine{States: 3000, Finals: []api.Final{{State: 2999}}}
		for s := range 2999 { // a way to the end that neither reads nor writes
			m.Arcs = append(m.Arcs, api.Arc{From: s, To: s + 1, W: 1})
		}
		for len(m.Arcs) < 20000 {
			m.Arcs = append(m.Arcs, api.Arc{From: d.n(3000), To: d.n(3000), In: d.n(2), Out: d.n(2), W: 1000000})
		}
		return m
	}
	a, b := great(), great()
	most := slices.Repeat([]int{1}, 60)
	if _, ok := mustCost(t, a, most, most); !ok {
		t.Error("no walk")
	}
	if cost, ok := mustCost(t, a, nil, nil); !ok || cost != 2999 {
		t.Errorf("the long way: %d %v", cost, ok)
	}
	if l, e := Outs(a, most, 8); len(l) != 9 || e != api.OK {
		t.Errorf("Outs: %v %d", l, e)
	}
	if _, e := Through(a, b); e != api.ErrMany {
		t.Errorf("Through: %d", e)
	}
	side := a
	side.Arcs = slices.Clone(a.Arcs)
	for i := range side.Arcs {
		side.Arcs[i].Out, side.Arcs[i].W = side.Arcs[i].In, 0
	}
	if _, e := Sure(side); e != api.OK {
		t.Errorf("Sure: %d", e)
	}
}

func TestQueue(t *testing.T) { // what Cost leans on not to be slow
	d := new(draw)
	var q queue
	for range 300 {
		var costs, popped []int
		for range d.n(40) {
			costs = append(costs, d.n(20))
			q.push(entry{cost: costs[len(costs)-1]})
		}
		for len(q) > 0 {
			popped = append(popped, q.pop().cost)
		}
		slices.Sort(costs)
		if !slices.Equal(costs, popped) {
			t.Fatalf("%v comes out as %v", costs, popped)
		}
	}
}
