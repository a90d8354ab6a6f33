package prove

import (
	"slices"
	"testing"

	"wordhoard/api"
)

// settle asks for an argument and for a world, of which there must be just
// one, that is right; it tells whether it is the argument.
func settle(t *testing.T, m instances, premises []api.Claim, c api.Claim) bool {
	t.Helper()
	l, ok, e := Argue(premises, c)
	world, no, f := Against(premises, c)
	if e != api.OK || f != api.OK || ok == no {
		t.Fatalf("%v so %v: %v %d, %v %d", premises, c, ok, e, no, f)
	}
	if ok {
		if len(world) != 0 || len(l) < 1 || len(l) > api.MaxArgued || l[len(l)-1].Claim != c || !m.right(premises, l) || !isSound(t, premises, l) {
			t.Fatalf("%v so %v: %v %v", premises, c, l, world)
		}
		return true
	}
	if len(l) != 0 || len(world) > api.MaxWorld || slices.ContainsFunc(world, isNobody) || !slowHold(world, premises) || slowHolds(world, c) {
		t.Fatalf("%v so not %v: %v %v", premises, c, l, world)
	}
	return false
}

// K2, K3, K4: of all claims about two nouns, up to two premises, against all worlds.
func TestAllFewPremises(t *testing.T) {
	claims := allClaims(2)
	table := newTable(allWorlds(2), claims)
	m := newInstances(api.MaxNouns)
	sets := [][]api.Claim{nil}
	for i, p := range claims {
		sets = append(sets, []api.Claim{p})
		for _, q := range claims[i:] {
			sets = append(sets, []api.Claim{p, q})
		}
	}
	var seen both
	for _, premises := range sets {
		for _, c := range claims {
			want := table.follows(premises, c)
			if got := settle(t, m, premises, c); got != want {
				t.Fatalf("%v so %v: %v", premises, c, got)
			}
			seen.add(want)
		}
	}
	seen.least(t, 2000)
}

// K2, K3, K4: about three nouns, against all worlds of them.
func TestThreeNouns(t *testing.T) {
	claims := allClaims(3)
	table := newTable(allWorlds(3), claims)
	m := newInstances(api.MaxNouns)
	d := draw(1)
	var seen both
	for range 6000 {
		premises := d.claims(d.n(7), 3)
		c := d.claim(3)
		want := table.follows(premises, c)
		if got := settle(t, m, premises, c); got != want {
			t.Fatalf("%v so %v: %v", premises, c, got)
		}
		seen.add(want)
	}
	seen.least(t, 1000)
}

// K4: about all nouns, up to as many premises as may be: an argument, or a world.
func TestAllNouns(t *testing.T) {
	m := newInstances(api.MaxNouns)
	d := draw(2)
	var seen both
	for range 3000 {
		premises := d.claims(d.n(api.MaxClaims+1), api.MaxNouns)
		for i := range premises {
			if d.n(3) > 0 { // few that are there, so that not all follows
				premises[i].Some = false
			}
		}
		seen.add(settle(t, m, premises, d.claim(api.MaxNouns)))
	}
	seen.least(t, 500)
}

// K2, K4: long chains, all literals in a ring, and what is void or full.
func TestLongArguments(t *testing.T) {
	m := newInstances(api.MaxNouns)
	var chain, ring []api.Claim
	order := []int{1, -2, 3, -4, 5, -6}
	for i, a := range order {
		if i+1 < len(order) {
			chain = append(chain, all(a, order[i+1]))
		}
		ring = append(ring, all(a, order[(i+1)%len(order)]))
	}
	void := append(slices.Clone(chain), all(-6, -1))
	for _, x := range []struct {
		name     string
		premises []api.Claim
		c        api.Claim
		want     bool
	}{
		{"chain", chain, all(1, -6), true},
		{"chain, turned", chain, all(6, -1), true},
		{"chain, back", chain, all(-6, 1), false},
		{"chain, there", append(slices.Clone(chain), some(1, 2)), some(-6, 2), true},
		{"chain, not there", chain, some(-6, -6), false},
		{"chain, clash", append(slices.Clone(chain), some(1, 6)), some(4, 4), true},
		{"ring", ring, all(-6, 1), true},
		{"ring, turned", ring, all(-1, 6), true},
		{"ring, other", ring, all(1, -1), false},
		{"void", void, all(1, 4), true},
		{"void, through", void, all(-4, -1), true},
		{"void, not", void, all(3, 1), false},
		{"void, there", append(slices.Clone(void), some(5, 1)), some(2, -2), true},
		{"nobody", []api.Claim{all(1, -1), all(-1, 1)}, all(3, -3), true},
		{"nobody there", []api.Claim{all(1, -1), all(-1, 1)}, some(3, 3), false},
		{"nobody, but one", []api.Claim{all(1, -1), all(-1, 1), some(2, 3)}, some(4, 5), true},
		{"full", []api.Claim{all(-1, 1), some(2, 3)}, some(3, 1), true},
		{"full, all", []api.Claim{all(-1, 1)}, all(-5, 1), true},
		{"no one is its opposite", []api.Claim{some(4, -4)}, all(1, 2), true},
		{"nothing given", nil, all(-3, -3), true},
		{"nothing given, nobody there", nil, some(3, 3), false},
	} {
		if got := settle(t, m, x.premises, x.c); got != x.want {
			t.Errorf("%s: %v", x.name, got)
		}
	}
}

// K3: nobody is in the world against it.
func TestAgainstOfNobody(t *testing.T) {
	world, ok, e := Against([]api.Claim{all(1, -1), all(-1, 1)}, some(2, 2))
	if len(world) != 0 || !ok || e != api.OK {
		t.Errorf("%v %v %d", world, ok, e)
	}
}

// K2: the document's example.
func TestExample(t *testing.T) {
	premises := []api.Claim{all(1, 2), some(3, 1)}
	if !settle(t, newInstances(api.MaxNouns), premises, some(3, 2)) {
		t.Errorf("it does not follow")
	}
	l, _, _ := Argue(premises, some(3, 2))
	if len(l) != 3 {
		t.Errorf("%v", l)
	}
}

// K2, K3, P1: too many premises ahead of all else, then these, then the claim.
func TestArgueErrors(t *testing.T) {
	many := slices.Repeat([]api.Claim{all(1, 2)}, api.MaxClaims+1)
	type asked struct {
		premises []api.Claim
		c        api.Claim
		e        api.Errno
	}
	l := []asked{
		{many, all(1, 2), api.ErrMany},
		{many, all(0, 2), api.ErrMany},
		{make([]api.Claim, api.MaxClaims+1), all(1, 2), api.ErrMany},
		{make([]api.Claim, 1<<20), all(1, 2), api.ErrMany},
		{many[1:], all(1, 2), api.OK},
		{make([]api.Claim, api.MaxClaims), all(1, 2), api.ErrRange},
	}
	for _, c := range wrongClaims() {
		l = append(l, asked{[]api.Claim{all(1, 2), c}, all(1, 2), api.ErrRange}, asked{[]api.Claim{all(1, 2)}, c, api.ErrRange}, asked{nil, c, api.ErrRange})
	}
	for _, x := range l {
		lines, ok, e := Argue(x.premises, x.c)
		if e != x.e || ok != (e == api.OK) || !ok && len(lines) != 0 {
			t.Errorf("%d premises, %v: %v %v %d, not %d", len(x.premises), x.c, lines, ok, e, x.e)
		}
		world, ok, e := Against(x.premises, x.c)
		if e != x.e || ok || len(world) != 0 {
			t.Errorf("%d premises, %v: %v %v %d, not %d", len(x.premises), x.c, world, ok, e, x.e)
		}
	}
}
