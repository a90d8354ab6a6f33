package term

import (
	"fmt"
	"slices"
	"strings"

	"wordhoard/api"
)

// draw tells numbers that look like chance, the same each time.
type draw uint64

func (d *draw) n(n int) int {
	*d = *d*6364136223846793005 + 1442695040888963407
	return int(uint64(*d) >> 33 % uint64(n))
}

func base(n int) api.Type { return api.Type{Kind: api.TypeBase, N: n} }

func to(a, b api.Type) api.Type { return api.Type{Kind: api.TypeTo, Kids: []api.Type{a, b}} }

func v(n int) api.Term { return api.Term{Kind: api.TermVar, N: n} }

func con(n int) api.Term { return api.Term{Kind: api.TermCon, N: n} }

func fn(t api.Type, is api.Term) api.Term {
	return api.Term{Kind: api.TermFn, Type: t, Kids: []api.Term{is}}
}

func app(what, on api.Term) api.Term {
	return api.Term{Kind: api.TermApp, Kids: []api.Term{what, on}}
}

// typeText and text tell all of what they are handed.
func typeText(t api.Type) string {
	var s strings.Builder
	fmt.Fprint(&s, t.Kind, ".", t.N)
	for _, kid := range t.Kids {
		s.WriteString("(" + typeText(kid) + ")")
	}
	return s.String()
}

func text(t api.Term) string {
	var s strings.Builder
	fmt.Fprint(&s, t.Kind, ".", t.N, "[", typeText(t.Type), "]")
	for _, kid := range t.Kids {
		s.WriteString("(" + text(kid) + ")")
	}
	return s.String()
}

func isNothing(t api.Term) bool {
	return t.Kind == 0 && t.N == 0 && isNoType(t.Type) && len(t.Kids) == 0
}

func typesOf(t api.Type) int {
	n := 1
	for _, kid := range t.Kids {
		n += typesOf(kid)
	}
	return n
}

func termsOf(t api.Term) int {
	n := 1
	for _, kid := range t.Kids {
		n += termsOf(kid)
	}
	return n
}

// deepType of so many functions; deepTerm of so many applications.
func deepType(many int) api.Type {
	t := base(0)
	for range many {
		t = to(base(0), t)
	}
	return t
}

func deepTerm(many int) api.Term {
	t := con(0)
	for range many {
		t = app(con(1), t)
	}
	return t
}

// someBases is how many base types the drawn ones have.
const someBases = 2

// kind of a drawn type, of at most so many functions.
func (d *draw) kind(many int) api.Type {
	if many == 0 || d.n(2) == 0 {
		return base(d.n(someBases))
	}
	first := d.n(many)
	return to(d.kind(first), d.kind(many-1-first))
}

// constants: one of each base type, and others.
func constants() []api.Type {
	a, b := base(0), base(1)
	return []api.Type{a, b, to(a, b), to(to(a, a), b), to(b, to(a, a))}
}

// typed is a term of a type, within functions whose variables are of the types around.
func (d *draw) typed(want api.Type, around []api.Type, deep int) api.Term {
	if deep > 0 && d.n(3) > 0 {
		of := d.kind(2)
		if d.n(3) == 0 && typesOf(want) < 8 { // else types get too great
			of = want
		}
		return app(d.typed(to(of, want), around, deep-1), d.typed(of, around, deep-1))
	}
	if l := fitting(want, around); len(l) > 0 && (d.n(3) > 0 || want.Kind == api.TypeBase) {
		return l[d.n(len(l))]
	}
	if want.Kind == api.TypeBase {
		return con(want.N)
	}
	return fn(want.Kids[0], d.typed(want.Kids[1], slices.Concat(around, want.Kids[:1]), deep))
}

// fitting variables and constants of a type.
func fitting(want api.Type, around []api.Type) []api.Term {
	var l []api.Term
	for i, t := range around {
		if typeText(t) == typeText(want) {
			l = append(l, v(len(around)-1-i))
		}
	}
	for i, t := range constants() {
		if typeText(t) == typeText(want) {
			l = append(l, con(i))
		}
	}
	return l
}

// raw term, whose variables may be free, and which need have no type.
func (d *draw) raw(deep int) api.Term {
	if deep == 0 {
		if d.n(4) == 0 {
			return con(d.n(6))
		}
		return v(d.n(5))
	}
	switch d.n(7) {
	case 0:
		return d.raw(0)
	case 1, 2:
		return fn(d.kind(2), d.raw(deep-1))
	case 3, 4:
		return app(fn(d.kind(1), d.raw(deep-1)), d.raw(deep-1))
	}
	return app(d.raw(deep-1), d.raw(deep-1))
}

// any term: one with a type, one that was like that, or a raw one.
func (d *draw) any() api.Term {
	switch d.n(4) {
	case 0:
		return d.raw(1 + d.n(6))
	case 1:
		t := d.typed(d.kind(2), nil, 1+d.n(5))
		d.spoil(&t)
		return t
	}
	return d.typed(d.kind(2), nil, 1+d.n(5))
}

// spoil something in a term.
func (d *draw) spoil(t *api.Term) {
	if len(t.Kids) > 0 && d.n(4) > 0 {
		d.spoil(&t.Kids[d.n(len(t.Kids))])
		return
	}
	if *t = d.raw(d.n(2)); d.n(3) == 0 {
		*t = fn(deepType(d.n(api.MaxType/2)), *t)
	}
}

// named term: each function has a name of its own for its variable, a free one has that of its number.
type named struct {
	kind, con int
	name      string
	of        api.Type
	kids      []named
}

// names that have not been told yet.
type names int

func (n *names) next() string {
	*n++
	return fmt.Sprint("x", int(*n))
}

func (n *names) name(t api.Term, around []string) named {
	m := named{kind: t.Kind, of: t.Type}
	switch t.Kind {
	case api.TermVar:
		if m.name = fmt.Sprint(t.N - len(around)); t.N < len(around) {
			m.name = around[len(around)-1-t.N]
		}
	case api.TermCon:
		m.con = t.N
	case api.TermFn:
		m.name = n.next()
		around = append(slices.Clone(around), m.name)
	}
	for _, kid := range t.Kids {
		m.kids = append(m.kids, n.name(kid, around))
	}
	return m
}

// numbered is the term of a named one.
func numbered(m named, around []string) api.Term {
	t := api.Term{Kind: m.kind, N: m.con, Type: m.of}
	switch m.kind {
	case api.TermVar:
		if at := slices.Index(around, m.name); at >= 0 {
			t.N = len(around) - 1 - at
		} else {
			fmt.Sscan(m.name, &t.N)
			t.N += len(around)
		}
	case api.TermFn:
		around = append(slices.Clone(around), m.name)
	}
	for _, kid := range m.kids {
		t.Kids = append(t.Kids, numbered(kid, around))
	}
	return t
}

// anew has other names for its functions' variables.
func (n *names) anew(m named, other map[string]string) named {
	switch m.kind {
	case api.TermVar:
		if s := other[m.name]; s != "" {
			m.name = s
		}
	case api.TermFn:
		other[m.name] = n.next()
		m.name = other[m.name]
	}
	kids := m.kids
	m.kids = nil
	for _, kid := range kids {
		m.kids = append(m.kids, n.anew(kid, other))
	}
	return m
}

// put a term in the place of a name.
func (n *names) put(m named, name string, arg named) named {
	if m.kind == api.TermVar && m.name == name {
		return n.anew(arg, map[string]string{})
	}
	kids := m.kids
	m.kids = nil
	for _, kid := range kids {
		m.kids = append(m.kids, n.put(kid, name, arg))
	}
	return m
}

func (n *names) step(m named, way []int) named {
	if len(way) == 0 {
		return n.put(m.kids[0].kids[0], m.kids[0].name, m.kids[1])
	}
	m.kids = slices.Clone(m.kids)
	m.kids[way[0]] = n.step(m.kids[way[0]], way[1:])
	return m
}

// slowStep at a spot, by names.
func slowStep(t api.Term, way []int) api.Term {
	var n names
	return numbered(n.step(n.name(t, nil), way), nil)
}

// slowWays to all terms in a term, as lists are compared; slowSpots those of them that lead to spots.
func slowWays(t api.Term, way []int) [][]int {
	all := [][]int{way}
	for i, kid := range t.Kids {
		all = append(all, slowWays(kid, append(slices.Clone(way), i))...)
	}
	slices.SortFunc(all, slices.Compare)
	return all
}

func slowSpots(t api.Term) [][]int {
	var all [][]int
	for _, way := range slowWays(t, nil) {
		at := t
		for _, i := range way {
			at = at.Kids[i]
		}
		if at.Kind == api.TermApp && at.Kids[0].Kind == api.TermFn {
			all = append(all, way)
		}
	}
	return all
}

// slowNormal is the normal term, by names, and how many steps there are.
func slowNormal(t api.Term) (api.Term, int, api.Errno) {
	for steps := 0; ; steps++ {
		l := slowSpots(t)
		switch {
		case termsOf(t) > api.MaxTerm, len(l) > 0 && steps == api.MaxSteps:
			return api.Term{}, 0, api.ErrMany
		case len(l) == 0:
			return t, steps, api.OK
		}
		t = slowStep(t, l[0])
	}
}

// slowType of a named term, by the types of the names.
func slowType(m named, of map[string]api.Type, cons []api.Type) (api.Type, api.Errno) {
	if m.kind == api.TermFn {
		of[m.name] = m.of
	}
	var kids []api.Type
	for _, kid := range m.kids {
		t, e := slowType(kid, of, cons)
		if e != api.OK {
			return api.Type{}, e
		}
		kids = append(kids, t)
	}
	switch {
	case m.kind == api.TermVar && of[m.name].Kind == 0, m.kind == api.TermCon && m.con >= len(cons):
		return api.Type{}, api.ErrName
	case m.kind == api.TermVar:
		return of[m.name], api.OK
	case m.kind == api.TermCon:
		return cons[m.con], api.OK
	case m.kind == api.TermFn && typesOf(m.of)+typesOf(kids[0])+1 > api.MaxType:
		return api.Type{}, api.ErrMany
	case m.kind == api.TermFn:
		return to(m.of, kids[0]), api.OK
	case kids[0].Kind == api.TypeBase, typeText(kids[0].Kids[0]) != typeText(kids[1]):
		return api.Type{}, api.ErrType
	}
	return kids[0].Kids[1], api.OK
}

func slowTypeOf(t api.Term, cons []api.Type) (api.Type, api.Errno) {
	var n names
	return slowType(n.name(t, nil), map[string]api.Type{}, cons)
}

// roomy has the same elements, and room behind them with what nobody may change.
func roomy[T any](l []T, behind T) []T {
	all := append(slices.Clone(l), behind, behind, behind)
	return all[:len(l)]
}
