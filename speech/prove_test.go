package speech

import (
	"slices"
	"testing"

	"wordhoard/api"
)

// checkProve tells whether a sequent is proved, and whether all is right with that.
func checkProve(t *testing.T, left []api.Part, goal api.Part) bool {
	t.Helper()
	p, ok, e := Prove(left, goal)
	if e != api.OK || !ok && !isNothing(p) {
		t.Fatalf("%s: %v %v %d", slowRow(left, goal), p, ok, e)
	}
	if ok {
		checkProof(t, p, left, goal)
	}
	return ok
}

// checkProof tells whether it is a proof of the sequent without cuts.
func checkProof(t *testing.T, p api.Proof, left []api.Part, goal api.Part) {
	t.Helper()
	if slowRow(p.Left, p.Goal) != slowRow(left, goal) || !slowRight(p) || cuts(p) > 0 || steps(p) > api.MaxProof {
		t.Fatalf("%s: %v", slowRow(left, goal), p)
	}
	if right, e := Right(p); !right || e != api.OK {
		t.Fatalf("%s: %v %d", slowRow(left, goal), right, e)
	}
}

// I3: against all steps, of all small sequents.
func TestProveAllSmallOnes(t *testing.T) {
	k := known{}
	yes := 0
	var rows func(left []api.Part, parts, slashes int)
	rows = func(left []api.Part, parts, slashes int) {
		for n := range slashes + 1 {
			for _, p := range allParts(n, 2) {
				if parts > 0 {
					rows(append(slices.Clone(left), p), parts-1, slashes-n)
					continue
				}
				want := k.proves(left, p)
				if checkProve(t, left, p) != want {
					t.Fatalf("%s: not %v", slowRow(left, p), want)
				}
				if want {
					yes++
				}
			}
		}
	}
	rows(nil, 1, 4)
	rows(nil, 2, 3)
	rows(nil, 3, 3)
	rows(nil, 4, 2)
	if yes < 500 {
		t.Errorf("only %d are proved", yes)
	}
}

// I3: against all steps, of greater ones: such as have a proof, and the same parts in another order.
func TestProveGreaterOnes(t *testing.T) {
	d := draw(1)
	yes, no := 0, 0
	for range 40 {
		k := known{}
		for _, p := range d.proofs(150) {
			if len(p.Left) > api.MaxRow || slashesOf(p.Left, p.Goal) > api.MaxSlashes {
				continue
			}
			if !checkProve(t, p.Left, p.Goal) {
				t.Fatalf("%s: not proved", slowRow(p.Left, p.Goal))
			}
			yes++
			left := slices.Clone(p.Left)
			at := d.n(len(left))
			left[0], left[at] = left[at], left[0]
			want := k.proves(left, p.Goal)
			if checkProve(t, left, p.Goal) != want {
				t.Fatalf("%s: not %v", slowRow(left, p.Goal), want)
			}
			if !want {
				no++
			}
		}
	}
	if yes < 1000 || no < 200 {
		t.Errorf("only %d and %d", yes, no)
	}
}

// I3: as many parts and slashes as may be.
func TestProveTheGreatest(t *testing.T) {
	for _, c := range []struct {
		left []string
		goal string
		ok   bool
	}{
		{[]string{"a", `(a\b)`, `(b\c)`, `(c\d)`, `(d\e)`, `(e\(f/(a/b)))`}, "(f/(a/b))", true},
		{[]string{"a", `(a\b)`, `(b\c)`, `(c\d)`, `(d\e)`, `(e\((a/b)\f))`}, "(f/(a/b))", false},
		{[]string{"a", `(a\b)`, `(b\c)`, `(c\d)`, `(d\e)`, `((f/(e\f))\f)`}, `(((f/f)\f)\f)`, false},
		{[]string{"(a/(b/(c/(d/(e/f)))))"}, "(a/(b/(c/(d/(e/f)))))", true},
		{[]string{`(((((f\e)\d)\c)\b)\a)`}, `(((((f\e)\d)\c)\b)\a)`, true},
		{[]string{`(((((f\e)\d)\c)\b)\a)`}, `(((((e\f)\d)\c)\b)\a)`, false},
		{[]string{"(a/a)", "(a/a)", "(a/a)", "(a/a)", "(a/a)", "(a/a)"}, "(a/a)", true},
		{[]string{"(a/a)", "(a/a)", "((a/a)/(a/a))", "(a/a)", "(a/a)", "(a/a)"}, "((a/a)/a)", false},
		{[]string{"a"}, `(b/(((b/((b/(a\b))\b))\b)\b))`, false},
		{[]string{"a"}, `(b/(((b/(a\b))\b)\b))`, false},
		{[]string{"a"}, `((b/((b/(a\b))\b))\b)`, false},
		{[]string{`(b/(a\b))`, `((a\b)/a)`, "a", `((a\b)\(a\b))`}, "b", true},
	} {
		left, goal := parts(c.left...), part(c.goal)
		if slashesOf(left, goal) > api.MaxSlashes {
			t.Errorf("%s: %d slashes", slowRow(left, goal), slashesOf(left, goal))
			continue
		}
		if ok := checkProve(t, left, goal); ok != c.ok || (known{}).proves(left, goal) != c.ok {
			t.Errorf("%s: %v", slowRow(left, goal), ok)
		}
	}
	d := draw(2)
	for range 3000 {
		left, goal := d.sequent(1+d.n(api.MaxRow), api.MaxSlashes, 1)
		checkProve(t, left, goal)
	}
}

// I5: G y is x just if G is (x/y) is, and y G is x just if G is (y\x) is.
func TestAsideAndBack(t *testing.T) {
	d := draw(3)
	yes, no := 0, 0
	for range 60 {
		for _, p := range d.proofs(100) {
			left, goal := p.Left, p.Goal
			if d.n(2) == 0 { // one that need not be proved
				left = slices.Clone(left)
				slices.Reverse(left)
			}
			last := len(left) - 1
			if last == 0 || len(left) > api.MaxRow || slashesOf(left, goal) >= api.MaxSlashes || slashes(goal)+slashes(left[0]) > 6 || slashes(goal)+slashes(left[last]) > 6 {
				continue
			}
			ok := checkProve(t, left, goal)
			if checkProve(t, left[:last], over(goal, left[last])) != ok || checkProve(t, left[1:], under(left[0], goal)) != ok {
				t.Fatalf("%s: not %v aside", slowRow(left, goal), ok)
			}
			if ok {
				yes++
			} else {
				no++
			}
		}
	}
	if yes < 500 || no < 100 {
		t.Errorf("only %d and %d", yes, no)
	}
}

// I5: what is proved through something else is proved, and has as many of each base part on either side.
func TestThroughSomethingElse(t *testing.T) {
	d := draw(4)
	through := 0
	for range 60 {
		all := d.proofs(80)
		for range 500 {
			first, second := all[d.n(len(all))], all[d.n(len(all))]
			for _, p := range comes(api.StepCut, first, second) {
				if len(p.Left) > api.MaxRow || slashesOf(p.Left, p.Goal) > api.MaxSlashes {
					continue
				}
				through++
				if !checkProve(t, p.Left, p.Goal) {
					t.Fatalf("%s: not proved", slowRow(p.Left, p.Goal))
				}
				for letter := range letters {
					sum := gives(p.Goal, letter)
					for _, x := range p.Left {
						sum -= gives(x, letter)
					}
					if sum != 0 {
						t.Fatalf("%s: %d of letter %d", slowRow(p.Left, p.Goal), sum, letter)
					}
				}
			}
		}
	}
	if through < 500 {
		t.Errorf("only %d", through)
	}
}

// I5: no sequent is proved that has not as many of each base part on either side.
func TestWhatIsProvedIsEven(t *testing.T) {
	d := draw(5)
	for range 20000 {
		left, goal := d.sequent(1+d.n(4), d.n(7), 1+d.n(letters))
		_, ok, _ := Prove(left, goal)
		for letter := range letters {
			sum := gives(goal, letter)
			for _, x := range left {
				sum -= gives(x, letter)
			}
			if ok && sum != 0 {
				t.Fatalf("%s: %d of letter %d", slowRow(left, goal), sum, letter)
			}
		}
	}
}

// I3, I5: a proof without cuts of all that has one with cuts.
func TestCutless(t *testing.T) {
	d := draw(6)
	with := 0
	for range 60 {
		for _, p := range d.proofs(150) {
			q, e := Cutless(p)
			switch {
			case len(p.Left) > api.MaxRow:
				if e != api.ErrMany || !isNothing(q) {
					t.Fatalf("%s: %v %d", slowRow(p.Left, p.Goal), q, e)
				}
			case slashesOf(p.Left, p.Goal) > api.MaxSlashes:
				if e != api.ErrLong || !isNothing(q) {
					t.Fatalf("%s: %v %d", slowRow(p.Left, p.Goal), q, e)
				}
			default:
				if e != api.OK {
					t.Fatalf("%s: %d", slowRow(p.Left, p.Goal), e)
				}
				checkProof(t, q, p.Left, p.Goal)
				if cuts(p) > 0 {
					with++
				}
			}
		}
	}
	if with < 500 {
		t.Errorf("only %d with cuts", with)
	}
}

// wide proof: of a part with so many slashes, ahead of as many others.
func wide(slashes int) api.Proof {
	p := same(base(0))
	for range slashes {
		p = comes(api.StepOverLeft, same(base(1)), p)[0]
	}
	return p
}

// I3: what Right says, then whether it is a proof, then what Prove tells.
func TestCutlessErrors(t *testing.T) {
	spoilt := func(p api.Proof) api.Proof {
		p.N++
		return p
	}
	for _, c := range []struct {
		name string
		p    api.Proof
		e    api.Errno
	}{
		{"as many parts as may be", wide(api.MaxRow - 1), api.OK},
		{"a part too many", wide(api.MaxRow), api.ErrMany},
		{"a part too many, and no proof", spoilt(wide(api.MaxRow)), api.ErrForm},
		{"as many slashes as may be", same(deep(api.MaxSlashes / 2)), api.OK},
		{"slashes too many", same(deep(api.MaxSlashes/2 + 1)), api.ErrLong},
		{"slashes too many, and no proof", spoilt(same(deep(api.MaxSlashes/2 + 1))), api.ErrForm},
		{"the longest chain", chain(api.MaxProof - 1), api.OK},
		{"too long a chain", chain(api.MaxProof + 1), api.ErrMany},
		{"too long a chain, and no proof", spoilt(chain(api.MaxProof + 1)), api.ErrMany},
	} {
		p, e := Cutless(c.p)
		if e != c.e || e != api.OK && !isNothing(p) {
			t.Errorf("%s: %v %d, not %d", c.name, p, e, c.e)
		}
		if e == api.OK {
			checkProof(t, p, c.p.Left, c.p.Goal)
		}
	}
}

// I3, P1: the errors, and which one comes first.
func TestProveErrors(t *testing.T) {
	none, far, full := api.Part{}, base(letters), api.Part{Kind: api.PartBase, Kids: parts("a")}
	for _, c := range []struct {
		name string
		left []api.Part
		goal api.Part
		e    api.Errno
	}{
		{"no parts", nil, base(0), api.ErrMany},
		{"no parts, and no goal", nil, none, api.ErrMany},
		{"a part too many", make([]api.Part, api.MaxRow+1), none, api.ErrMany},
		{"very many parts", make([]api.Part, 1<<20), none, api.ErrMany},
		{"as many as may be", slices.Repeat(parts("a"), api.MaxRow), base(0), api.OK},
		{"the first part ahead of the second", []api.Part{far, none}, full, api.ErrRange},
		{"the second part ahead of the goal", []api.Part{base(0), full}, none, api.ErrForm},
		{"the goal", parts("a"), far, api.ErrRange},
		{"too great a part", []api.Part{deep(api.MaxPart/2 + 1)}, none, api.ErrMany},
		{"an endless goal", parts("a"), endless(), api.ErrMany},
		{"slashes too many in the left", []api.Part{deep(6), deep(5)}, base(0), api.ErrLong},
		{"slashes too many with the goal", []api.Part{deep(7)}, deep(4), api.ErrLong},
		{"slashes too many, but a wrong goal", []api.Part{deep(7), deep(7)}, far, api.ErrRange},
		{"as many slashes as may be", []api.Part{deep(7)}, deep(3), api.OK},
	} {
		p, ok, e := Prove(c.left, c.goal)
		if ok || e != c.e || !isNothing(p) {
			t.Errorf("%s: %v %v %d, not %d", c.name, p, ok, e, c.e)
		}
	}
	for _, w := range wrong() {
		if p, ok, e := Prove([]api.Part{w.p}, base(0)); ok || e != w.e || !isNothing(p) {
			t.Errorf("%s: %v %v %d, not %d", w.name, p, ok, e, w.e)
		}
		if p, ok, e := Prove(parts("a"), w.p); ok || e != w.e || !isNothing(p) {
			t.Errorf("%s: %v %v %d, not %d", w.name, p, ok, e, w.e)
		}
	}
}

// I3: the document's example.
func TestExample(t *testing.T) {
	if !checkProve(t, parts("a", "((a\\b)/a)", "a"), part("b")) {
		t.Errorf("not proved")
	}
}
