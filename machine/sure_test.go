package machine

import (
	"slices"
	"testing"

	"wordhoard/api"
)

func mustSure(t *testing.T, m api.Machine) api.Machine {
	t.Helper()
	s, e := Sure(m)
	if e != api.OK {
		t.Fatalf("Sure: %d", e)
	}
	return s
}

// isSure looks at all that B4 says of a sure machine's form.
func isSure(t *testing.T, m api.Machine) {
	t.Helper()
	if Check(m) != api.OK || !plain(m) {
		t.Fatalf("%v is not plain", m)
	}
	for i, arc := range m.Arcs {
		if arc.In == 0 {
			t.Fatalf("%v reads nothing", m)
		}
		if i > 0 && (arc.From < m.Arcs[i-1].From || arc.From == m.Arcs[i-1].From && arc.In <= m.Arcs[i-1].In) {
			t.Fatalf("the arcs of %v don't rise", m)
		}
	}
	for i := 1; i < len(m.Finals); i++ {
		if m.Finals[i].State <= m.Finals[i-1].State {
			t.Fatalf("the finals of %v don't rise", m)
		}
	}
	come := 1
	for _, arc := range m.Arcs {
		if arc.From >= come || arc.To > come {
			t.Fatalf("the states of %v are numbered in another order", m)
		}
		if arc.To == come {
			come++
		}
	}
	if come != m.States {
		t.Fatalf("not all states of %v are come to", m)
	}
}

// from is the machine with another first state.
func from(m api.Machine, state int) api.Machine {
	swap := func(s int) int {
		switch s {
		case 0:
			return state
		case state:
			return 0
		}
		return s
	}
	n := api.Machine{States: m.States}
	for _, arc := range m.Arcs {
		arc.From, arc.To = swap(arc.From), swap(arc.To)
		n.Arcs = append(n.Arcs, arc)
	}
	for _, final := range m.Finals {
		final.State = swap(final.State)
		n.Finals = append(n.Finals, final)
	}
	return n
}

// isSmall tells by all texts that are long enough whether two states could be one, or one be left out.
func isSmall(t *testing.T, m api.Machine) {
	t.Helper()
	told := map[string]int{}
	for state := range m.States {
		var answers []byte
		some := false
		for _, w := range words(2, m.States) {
			ok := reads(from(m, state), w)
			some = some || ok
			answers = append(answers, map[bool]byte{false: '0', true: '1'}[ok])
		}
		if !some && m.States > 1 {
			t.Fatalf("%v has a state from which nothing is read", m)
		}
		if _, ok := told[string(answers)]; ok {
			t.Fatalf("%v has two states that would read the same", m)
		}
		told[string(answers)] = state
	}
}

func TestSure(t *testing.T) { // B4
	d := new(draw)
	sizes := map[int]int{}
	for range 400 {
		a := d.plain()
		m := mustSure(t, a)
		isSure(t, m)
		for _, w := range words(2, 5) {
			if reads(a, w) != reads(m, w) {
				t.Fatalf("Sure of %v: %v reads %v otherwise", a, m, w)
			}
		}
		if m.States <= 6 {
			isSmall(t, m)
		}
		sizes[m.States]++
	}
	for n := 1; n <= 4; n++ {
		if sizes[n] < 5 {
			t.Errorf("only %d machines of %d states", sizes[n], n)
		}
	}
}

func TestSureByHand(t *testing.T) { // B4
	nothing := api.Machine{States: 1}
	empty := api.Machine{States: 1, Finals: []api.Final{{}}}
	for _, x := range []struct{ m, want api.Machine }{
		{nothing, nothing},
		{empty, empty},
		{api.Machine{States: 3, Arcs: []api.Arc{{From: 0, To: 1, In: 1, Out: 1}, {From: 1, To: 0, In: 2, Out: 2}}, Finals: []api.Final{{State: 2}}}, nothing},
		{api.Machine{States: 3, Arcs: []api.Arc{{From: 0, To: 1}, {From: 1, To: 2}, {From: 2, To: 0}}, Finals: []api.Final{{State: 2}}}, empty},
		{ring(1), ring(1)},
		{ring(7), ring(7)},
		// the states are numbered by symbols, not by where they stood
		{api.Machine{States: 4, Finals: []api.Final{{State: 3}}, Arcs: []api.Arc{{From: 0, To: 1, In: 60, Out: 60}, {From: 0, To: 2, In: 3, Out: 3}, {From: 2, To: 3, In: 1, Out: 1}, {From: 1, To: 3, In: 2, Out: 2}}},
			api.Machine{States: 4, Finals: []api.Final{{State: 3}}, Arcs: []api.Arc{{From: 0, To: 1, In: 3, Out: 3}, {From: 0, To: 2, In: 60, Out: 60}, {From: 1, To: 3, In: 1, Out: 1}, {From: 2, To: 3, In: 2, Out: 2}}}},
	} {
		if got := mustSure(t, x.m); !same(got, x.want) {
			t.Errorf("Sure of %v: %v, want %v", x.m, got, x.want)
		}
	}
}

func TestSureOfWhatIsNotPlain(t *testing.T) { // B4
	arc, cost, end := line(1, 1), line(1, 1), line(1, 1)
	arc.Arcs[0].Out = 0
	cost.Arcs[0].W = 1
	end.Finals[0].W = 1
	for _, m := range []api.Machine{arc, cost, end} {
		if s, e := Sure(m); e != api.ErrKind || !isZero(s) {
			t.Errorf("Sure of %v: %v %d", m, s, e)
		}
	}
	big := ring(501)
	big.Finals[0].W = 1
	if _, e := Sure(big); e != api.ErrKind {
		t.Errorf("another kind, and too many sets: %d", e)
	}
}

func TestSetsThatAreTooMany(t *testing.T) { // B4: a set counts though nothing is read from it; the empty one doesn't
	dead := line(1, 499)
	dead.Finals = nil
	if m, e := Sure(dead); e != api.OK || !same(m, api.Machine{States: 1}) {
		t.Errorf("500 sets from which nothing is read: %v %d", m, e)
	}
	dead = line(1, 500)
	dead.Finals = nil
	if m, e := Sure(dead); e != api.ErrMany || !isZero(m) {
		t.Errorf("501 sets from which nothing is read: %v %d", m, e)
	}
	if m, e := Sure(line(2, 499)); e != api.OK || m.States != 500 {
		t.Errorf("500 sets: %d %d", m.States, e)
	}
	if _, e := Sure(ring(500)); e != api.OK {
		t.Errorf("a ring of 500 sets: %d", e)
	}
	if m, e := Sure(ring(501)); e != api.ErrMany || !isZero(m) {
		t.Errorf("a ring of 501 sets: %d", e)
	}
	far := line(1, 3)
	far.States = 3000
	if m, e := Sure(far); e != api.OK || m.States != 4 {
		t.Errorf("states that are not come to: %d %d", m.States, e)
	}
	// what stands n ahead of the end: 2^n sets
	if m, e := Sure(ahead(8)); e != api.OK || m.States != 256 {
		t.Errorf("256 sets: %d %d", m.States, e)
	}
	if m, e := Sure(ahead(9)); e != api.ErrMany || !isZero(m) {
		t.Errorf("512 sets: %d", e)
	}
}

// ahead reads the texts of 1 and 2 in which 2 stands so many places from the end.
func ahead(n int) api.Machine {
	m := api.Machine{States: n + 1, Finals: []api.Final{{State: n}}}
	m.Arcs = append(m.Arcs, api.Arc{In: 1, Out: 1}, api.Arc{In: 2, Out: 2}, api.Arc{From: 0, To: 1, In: 2, Out: 2})
	for s := 1; s < n; s++ {
		m.Arcs = append(m.Arcs, api.Arc{From: s, To: s + 1, In: 1, Out: 1}, api.Arc{From: s, To: s + 1, In: 2, Out: 2})
	}
	return m
}

func TestSureOfManyArcs(t *testing.T) { // B4: no bound of arcs is named there
	m := line(1, 399)
	m.States++
	for s := range 400 { // by any other symbol, through a state that all share, back to the first one
		m.Arcs = append(m.Arcs, api.Arc{From: s, To: 400})
	}
	for c := 2; c <= 60; c++ {
		m.Arcs = append(m.Arcs, api.Arc{From: 400, To: 0, In: c, Out: c})
	}
	if s, e := Sure(m); e != api.OK || s.States != 400 || len(s.Arcs) != 400*60-1 {
		t.Errorf("%d states, %d arcs, %d", s.States, len(s.Arcs), e)
	}
}

func TestSuresAreTheSameJustIfTheyReadTheSame(t *testing.T) { // B6
	d := new(draw)
	alike := 0
	for range 1000 {
		a, b := d.plain(), d.plain()
		text, apart, e := Apart(a, b)
		if e != api.OK {
			t.Fatal(e)
		}
		if same(mustSure(t, a), mustSure(t, b)) == apart {
			t.Fatalf("%v and %v: Apart is %v %v", a, b, text, apart)
		}
		if !apart {
			alike++
		}
		m := mustSure(t, a)
		if !same(m, mustSure(t, m)) {
			t.Fatalf("%v is not its own Sure", m)
		}
		twice, e := Either(a, a)
		if e != api.OK || !same(m, mustSure(t, twice)) {
			t.Fatalf("Either of %v and itself: %v %d", a, twice, e)
		}
		behind, e := Chain(a, api.Machine{States: 1, Finals: []api.Final{{}}})
		if e != api.OK || !same(m, mustSure(t, behind)) {
			t.Fatalf("Chain of %v and nothing: %v %d", a, behind, e)
		}
		both, e := Through(a, a)
		if e != api.OK || !same(m, mustSure(t, both)) {
			t.Fatalf("Through of %v and itself: %v %d", a, both, e)
		}
	}
	if alike < 20 || alike > 900 {
		t.Errorf("%d read the same", alike)
	}
}

func TestThroughIsWhatGoesThroughBoth(t *testing.T) { // B6
	d := new(draw)
	for range 100 {
		a, b := d.plain(), d.plain()
		m, e := Through(a, b)
		if e != api.OK {
			t.Fatal(e)
		}
		for _, w := range words(2, 4) {
			if reads(m, w) != (reads(a, w) && reads(b, w)) {
				t.Fatalf("Through of %v and %v reads %v: %v", a, b, w, reads(m, w))
			}
		}
	}
}

func TestApart(t *testing.T) { // B5
	d := new(draw)
	found := map[int]int{}
	for range 600 {
		a, b := d.plain(), d.plain()
		text, ok, e := Apart(a, b)
		if e != api.OK || !ok && len(text) > 0 {
			t.Fatalf("Apart of %v, %v: %v %v %d", a, b, text, ok, e)
		}
		if ok && reads(a, text) == reads(b, text) {
			t.Fatalf("Apart of %v, %v: both do the same with %v", a, b, text)
		}
		for _, w := range words(2, 5) {
			if ok && byLength(w, text) >= 0 {
				break
			}
			if reads(a, w) != reads(b, w) {
				t.Fatalf("Apart of %v, %v: %v %v, but %v comes first", a, b, text, ok, w)
			}
		}
		if ok {
			found[len(text)]++
		}
	}
	for n := range 3 {
		if found[n] < 5 {
			t.Errorf("only %d texts of %d symbols", found[n], n)
		}
	}
}

func TestApartEdges(t *testing.T) { // B5
	for _, x := range []struct {
		a, b api.Machine
		want []int
		ok   bool
	}{
		{ring(500), ring(499), slices.Repeat([]int{1}, 499), true},
		{line(60, 1), line(59, 1), []int{59}, true},
		{line(60, 1), api.Machine{States: 1}, []int{60}, true},
		{api.Machine{States: 3000}, line(60, 2), []int{60, 60}, true},
		{api.Machine{States: 1}, api.Machine{States: 1, Finals: []api.Final{{}}}, nil, true},
		{api.Machine{States: 2}, api.Machine{States: 1}, nil, false},
		{ring(4), from(ring(4), 0), nil, false},
	} {
		if text, ok, e := Apart(x.a, x.b); e != api.OK || ok != x.ok || !slices.Equal(text, x.want) {
			t.Errorf("Apart: %v %v %d, want %v %v", text, ok, e, x.want, x.ok)
		}
	}
	dear := line(1, 1)
	dear.Arcs[0].W = 1
	for _, x := range []struct {
		a, b api.Machine
		want api.Errno
	}{{dear, ring(501), api.ErrKind}, {ring(501), dear, api.ErrKind}, {ring(501), ring(1), api.ErrMany}, {ring(1), ring(501), api.ErrMany}, {ring(501), ring(501), api.ErrMany}} {
		if text, ok, e := Apart(x.a, x.b); e != x.want || ok || len(text) > 0 {
			t.Errorf("Apart: %v %v %d, want %d", text, ok, e, x.want)
		}
	}
}
