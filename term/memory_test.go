package term

import (
	"fmt"
	"slices"
	"testing"

	"wordhoard/api"
)

// roomyType has room behind each list, as have the others.
func roomyType(t api.Type) api.Type {
	t.Kids = roomyTypes(t.Kids)
	return t
}

func roomyTypes(l []api.Type) []api.Type {
	var all []api.Type
	for _, t := range l {
		all = append(all, roomyType(t))
	}
	return roomy(all, api.Type{Kind: 77})
}

func roomyTerm(t api.Term) api.Term {
	var kids []api.Term
	for _, kid := range t.Kids {
		kids = append(kids, roomyTerm(kid))
	}
	t.Type, t.Kids = roomyType(t.Type), roomy(kids, api.Term{Kind: 77})
	return t
}

// wholeType tells all of a type, with the room behind its lists.
func wholeType(t api.Type) string {
	s := fmt.Sprint(t.Kind, ".", t.N, "(")
	for _, kid := range t.Kids[:cap(t.Kids)] {
		s += wholeType(kid)
	}
	return s + ")"
}

func wholeTerm(t api.Term) string {
	s := fmt.Sprint(t.Kind, ".", t.N, "[", wholeType(t.Type), "](")
	for _, kid := range t.Kids[:cap(t.Kids)] {
		s += wholeTerm(kid)
	}
	return s + ")"
}

func wipeType(t api.Type) {
	for _, kid := range t.Kids {
		wipeType(kid)
	}
	clear(t.Kids)
}

func wipeTerm(t api.Term) {
	wipeType(t.Type)
	for _, kid := range t.Kids {
		wipeTerm(kid)
	}
	clear(t.Kids)
}

// handed is all that is handed in.
type handed struct {
	t    api.Term
	cons []api.Type
	spot []int
}

func (h handed) whole() string {
	s := wholeTerm(h.t) + fmt.Sprint(h.spot[:cap(h.spot)])
	for _, t := range h.cons[:cap(h.cons)] {
		s += wholeType(t)
	}
	return s
}

func (h handed) wipe() {
	wipeTerm(h.t)
	for _, t := range h.cons {
		wipeType(t)
	}
	clear(h.cons)
	clear(h.spot)
}

// answered is all that is answered.
type answered struct {
	is           api.Type
	spots        [][]int
	step, normal api.Term
	many         int
	errors       []api.Errno
}

func (h handed) answers() answered {
	var a answered
	var e, f, g, i api.Errno
	a.is, e = TypeOf(h.t, h.cons)
	a.spots, f = Spots(h.t)
	a.step, g = Step(h.t, h.spot)
	a.normal, a.many, i = Normal(h.t)
	a.errors = []api.Errno{e, f, g, i, Check(h.t), CheckType(h.t.Type)}
	return a
}

// drawn term with a spot of it, all lists of which have room behind.
func (d *draw) handed() handed {
	x := d.any()
	h := handed{t: roomyTerm(x), cons: roomyTypes(constants())}
	if l := slowSpots(x); len(l) > 0 {
		h.spot = roomy(l[d.n(len(l))], 77)
	}
	return h
}

// P2, P3: what is handed in is only read, and not kept, and the answers are the same each time.
func TestInputsAreOnlyRead(t *testing.T) {
	d := draw(1)
	for range 1000 {
		h := d.handed()
		before := h.whole()
		first := h.answers()
		if now := h.whole(); now != before {
			t.Fatalf("it was\n%s\nand is\n%s", before, now)
		}
		said := fmt.Sprint(first)
		for range 3 {
			if again := fmt.Sprint(h.answers()); again != said {
				t.Fatalf("it says\n%s\nthen\n%s", said, again)
			}
		}
		h.wipe()
		if now := fmt.Sprint(first); now != said {
			t.Fatalf("it said\n%s\nwhich is now\n%s", said, now)
		}
	}
}

// places where types, terms and numbers lie, with those in the room behind lists.
type places struct {
	types   map[*api.Type]int
	terms   map[*api.Term]int
	numbers map[*int]int
}

func newPlaces() places {
	return places{types: map[*api.Type]int{}, terms: map[*api.Term]int{}, numbers: map[*int]int{}}
}

func (m places) addTypes(l []api.Type) {
	all := l[:cap(l)]
	for i := range all {
		m.types[&all[i]]++
	}
	for _, t := range l {
		m.addTypes(t.Kids)
	}
}

func (m places) addTerm(t api.Term) {
	m.addTypes(t.Type.Kids)
	all := t.Kids[:cap(t.Kids)]
	for i := range all {
		m.terms[&all[i]]++
	}
	for _, kid := range t.Kids {
		m.addTerm(kid)
	}
}

func (m places) addNumbers(l []int) {
	all := l[:cap(l)]
	for i := range all {
		m.numbers[&all[i]]++
	}
}

// apart tells whether nothing lies in two lists.
func (m places) apart() bool {
	most := 0
	for _, n := range m.types {
		most = max(most, n)
	}
	for _, n := range m.terms {
		most = max(most, n)
	}
	for _, n := range m.numbers {
		most = max(most, n)
	}
	return most < 2
}

// P2: no two lists of an answer share memory, and none of them any that was handed in.
func TestListsAreApart(t *testing.T) {
	d := draw(2)
	shared := fn(to(base(0), base(1)), app(v(0), fn(to(base(1), base(0)), app(v(1), v(0)))))
	for i := range 1500 {
		h := d.handed()
		if i%3 == 0 { // a term that is put in several places, with types in it
			h.t, h.spot = roomyTerm(app(fn(base(0), app(v(0), app(v(0), v(0)))), shared)), nil
		}
		a := h.answers()
		for _, add := range []func(places){
			func(m places) { m.addTypes(a.is.Kids) },
			func(m places) { m.addTerm(a.step) },
			func(m places) { m.addTerm(a.normal) },
			func(m places) {
				for _, way := range a.spots {
					m.addNumbers(way)
				}
			},
		} {
			m := newPlaces()
			m.addTerm(h.t)
			m.addTypes(h.cons)
			m.addNumbers(h.spot)
			add(m)
			if !m.apart() {
				t.Fatalf("%s at %v: something lies in two lists", text(h.t), h.spot)
			}
		}
	}
}

// P2: what has no kids shares no room with what was handed in.
func TestNoRoomIsShared(t *testing.T) {
	room := make([]api.Term, 3)
	types := make([]api.Type, 3)
	x := api.Term{Kind: api.TermCon, N: 1, Type: api.Type{Kids: types[:0]}, Kids: room[:0]}
	o := api.Type{Kind: api.TypeBase, Kids: types[:0]}
	n, _, _ := Normal(x)
	s, _ := Step(app(fn(o, v(0)), x), nil)
	f, _, _ := Normal(fn(o, x))
	is, _ := TypeOf(x, []api.Type{o, o})
	for _, t := range []api.Term{n, s, f, f.Kids[0]} {
		_ = append(t.Kids, con(77))
		_ = append(t.Type.Kids, base(7))
	}
	_ = append(is.Kids, base(7))
	if slices.ContainsFunc(room, func(t api.Term) bool { return t.Kind != 0 }) || slices.ContainsFunc(types, func(t api.Type) bool { return t.Kind != 0 }) {
		t.Errorf("%v %v", room, types)
	}
}
