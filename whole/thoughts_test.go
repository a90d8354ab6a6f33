package whole

import (
	"reflect"
	"slices"
	"strings"
	"testing"

	"wordhoard/api"
	"wordhoard/heads"
	"wordhoard/prove"
	"wordhoard/sense"
	"wordhoard/speech"
	"wordhoard/talk"
	"wordhoard/term"
)

// ups of so many words are all ways to hang them, trees or not.
func ups(words int) [][]int {
	all := [][]int{nil}
	for range words {
		var longer [][]int
		for _, up := range all {
			for head := range words + 1 {
				longer = append(longer, append(slices.Clone(up), head))
			}
		}
		all = longer
	}
	return all
}

func worthOf(up []int, score [][]int) int {
	sum := 0
	for w, head := range up {
		sum += score[head][w]
	}
	return sum
}

// No tree of heads is worth more.
func TestNoTreeIsWorthMore(t *testing.T) { // H2
	d := draw(1)
	for range 400 {
		words := 1 + d.n(4)
		score := make([][]int, words+1)
		for h := range score {
			for range words {
				score[h] = append(score[h], d.n(21)-10)
			}
		}
		isOne := func(up []int) bool {
			return slices.Index(up, 0) == len(up)-1-slices.Index(reversed(up), 0)
		}
		for i, best := range []func([][]int) ([]int, int, api.Errno){heads.Best, heads.BestFlat, heads.One} {
			fits := func(up []int) bool {
				return heads.Tree(up) && (i != 1 || heads.Flat(up)) && (i != 2 || isOne(up))
			}
			up, worth, e := best(score)
			ok(t, score, e)
			if !fits(up) || worthOf(up, score) != worth {
				t.Fatalf("%v: %v %d", score, up, worth)
			}
			for _, other := range ups(words) {
				if fits(other) && worthOf(other, score) > worth {
					t.Fatalf("%v: %v is worth %d, and %v more", score, up, worth, other)
				}
			}
		}
	}
}

func reversed(l []int) []int {
	l = slices.Clone(l)
	slices.Reverse(l)
	return l
}

// part of so many slashes.
func (d *draw) part(slashes int) api.Part {
	if slashes == 0 {
		return api.Part{Kind: api.PartBase, N: d.n(2)}
	}
	first := d.n(slashes)
	return api.Part{Kind: api.PartOver + d.n(2), Kids: []api.Part{d.part(first), d.part(slashes - 1 - first)}}
}

func (d *draw) parts(most int) []api.Part {
	var l []api.Part
	for range 1 + d.n(most) {
		l = append(l, d.part(d.n(3)))
	}
	return l
}

// cuts of a proof.
func cuts(p api.Proof) int {
	n := 0
	if p.Step == api.StepCut {
		n++
	}
	for _, kid := range p.Kids {
		n += cuts(kid)
	}
	return n
}

// Proofs can do without cuts.
func TestProofsDoWithoutCuts(t *testing.T) { // I5
	d := draw(2)
	cut := 0
	for range 60000 {
		x, z := d.part(d.n(2)), d.part(d.n(2))
		left, around := d.parts(2), d.parts(2)
		at := d.n(len(around))
		around[at] = x
		first, is, e := speech.Prove(left, x)
		second, other, f := speech.Prove(around, z)
		if !is || !other || e != api.OK || f != api.OK {
			continue
		}
		p := api.Proof{Step: api.StepCut, Left: slices.Concat(around[:at], left, around[at+1:]), Goal: z, At: at, N: len(left), Kids: []api.Proof{first, second}}
		right, e := speech.Right(p)
		q, f := speech.Cutless(p)
		ok(t, p, e, f)
		still, e := speech.Right(q)
		ok(t, q, e)
		if !right || !still || cuts(q) > 0 || !reflect.DeepEqual(q.Left, p.Left) || !reflect.DeepEqual(q.Goal, p.Goal) {
			t.Fatalf("%v: %v %v %v", p, right, still, q)
		}
		cut++
	}
	if cut < 200 {
		t.Errorf("only %d cuts", cut)
	}
}

// closed term within so many functions.
func (d *draw) term(around, deep int) api.Term {
	base := api.Type{Kind: api.TypeBase}
	switch n := d.n(6); {
	case deep == 0 && around > 0 && n > 1:
		return api.Term{Kind: api.TermVar, N: d.n(around)}
	case deep == 0:
		return api.Term{Kind: api.TermCon, N: d.n(3)}
	case n < 2:
		return api.Term{Kind: api.TermFn, Type: base, Kids: []api.Term{d.term(around+1, deep-1)}}
	case n < 4:
		fn := api.Term{Kind: api.TermFn, Type: base, Kids: []api.Term{d.term(around+1, deep-1)}}
		return api.Term{Kind: api.TermApp, Kids: []api.Term{fn, d.term(around, deep-1)}}
	}
	return api.Term{Kind: api.TermApp, Kids: []api.Term{d.term(around, deep-1), d.term(around, deep-1)}}
}

// end comes of steps at any spots; false: it is not in sight.
func (d *draw) end(x api.Term) (api.Term, bool) {
	for range api.MaxSteps {
		spots, e := term.Spots(x)
		if e != api.OK {
			return api.Term{}, false
		}
		if len(spots) == 0 {
			return x, true
		}
		if x, e = term.Step(x, spots[d.n(len(spots))]); e != api.OK {
			return api.Term{}, false
		}
	}
	return api.Term{}, false
}

// Terms come to one end.
func TestTermsComeToOneEnd(t *testing.T) { // J5
	d := draw(3)
	several := 0
	for range 3000 {
		x := d.term(0, 4)
		normal, steps, e := term.Normal(x)
		if e != api.OK {
			continue
		}
		for range 3 {
			end, there := d.end(x)
			if there && !reflect.DeepEqual(flat(end), flat(normal)) {
				t.Fatalf("%v: %v, not %v", x, end, normal)
			}
			if there && steps > 1 {
				several++
			}
		}
	}
	if several < 1000 {
		t.Errorf("only %d by several steps", several)
	}
}

// flat has what a term is made of, one behind the other (nil and empty lists are the same then).
func flat(x api.Term) [][4]int {
	l := [][4]int{{x.Kind, x.N, x.Type.Kind, len(x.Kids)}}
	for _, kid := range x.Kids {
		l = append(l, flat(kid)...)
	}
	return l
}

func (d *draw) claim() api.Claim {
	literal := func() int { return (1 + d.n(4)) * (1 - 2*d.n(2)) }
	return api.Claim{Some: d.n(3) == 0, A: literal(), B: literal()}
}

// What has an argument follows, and what has none has a world against it.
func TestArgumentsOrWorlds(t *testing.T) { // K4
	d := draw(4)
	argued := 0
	for range 3000 {
		var premises []api.Claim
		for range d.n(7) {
			premises = append(premises, d.claim())
		}
		c := d.claim()
		lines, is, e := prove.Argue(premises, c)
		world, not, f := prove.Against(premises, c)
		ok(t, premises, e, f)
		if is == not {
			t.Fatalf("%v so %v: %v %v", premises, c, lines, world)
		}
		if is {
			argued++
			if sound, e := prove.Sound(premises, lines); !sound || e != api.OK || lines[len(lines)-1].Claim != c {
				t.Fatalf("%v so %v: %v", premises, c, lines)
			}
			for range 30 { // it holds wherever the premises do
				if w := d.world(); holdAll(t, w, premises) && !holdAll(t, w, []api.Claim{c}) {
					t.Fatalf("%v so %v: not in %v", premises, c, w)
				}
			}
			continue
		}
		if !holdAll(t, world, premises) || holdAll(t, world, []api.Claim{c}) {
			t.Fatalf("%v so not %v: %v", premises, c, world)
		}
	}
	if argued < 300 || argued > 2700 {
		t.Errorf("%d have arguments", argued)
	}
}

func (d *draw) world() []int {
	l := make([]int, d.n(4))
	for i := range l {
		l[i] = d.n(16)
	}
	return l
}

func holdAll(t *testing.T, world []int, claims []api.Claim) bool {
	t.Helper()
	for _, c := range claims {
		is, e := prove.Holds(world, c)
		ok(t, c, e)
		if !is {
			return false
		}
	}
	return true
}

// reasons are all that could be one for so many places, of two individuals.
func reasons(who, places int) []api.Reason {
	if places == 0 {
		return []api.Reason{{Who: who}}
	}
	all := []api.Reason{{Who: who}}
	first, second := reasons(0, places-1), reasons(1, places-1)
	for _, a := range slices.Concat(first, second) {
		all = append(all, api.Reason{Who: who, Kids: []api.Reason{a}})
	}
	for _, a := range first {
		for _, b := range second {
			all = append(all, api.Reason{Who: who, Kids: []api.Reason{a, b}})
		}
	}
	return all
}

// There is a good reason for just one of both.
func TestReasonsForJustOne(t *testing.T) { // L5
	d := draw(5)
	all := reasons(-1, 2)
	for range 600 {
		s := api.Scene{Size: 2, Nouns: []int{d.n(4), d.n(4)}, Verbs: []api.Verb{{Places: 2}}}
		for _, list := range [][]int{{0, 0}, {0, 1}, {1, 0}, {1, 1}} {
			if d.n(2) == 0 {
				s.Verbs[0].Of = append(s.Verbs[0].Of, list)
			}
		}
		said := api.Saying{Phrases: []api.Phrase{{Quant: 1 + d.n(3), Noun: d.n(2)}, {Quant: 1 + d.n(3), Noun: d.n(2)}}}
		for _, order := range [][]int{{0, 1}, {1, 0}} {
			holds, e := sense.Holds(s, said, order)
			so, why, f := sense.Why(s, said, order)
			good, g := sense.Good(s, said, order, so, why)
			ok(t, s, e, f, g)
			if so != holds || !good {
				t.Fatalf("%v of %v, %v: %v %v %v", said, s, order, holds, so, why)
			}
			for _, other := range all {
				if bad, e := sense.Good(s, said, order, !so, other); bad || e != api.OK {
					t.Fatalf("%v of %v, %v: %v is good for the opposite, too", said, s, order, other)
				}
			}
		}
	}
}

// Two come to the same, whatever is lost.
func TestTwoComeToTheSame(t *testing.T) { // O4
	d := draw(6)
	for range 300 {
		a, e := talk.New(1+d.n(9), 3)
		b, f := talk.New(1+d.n(9), 3)
		ok(t, "New", e, f)
		both := [2]*talk.Talker{a, b}
		var told [2][][]api.Told
		for range d.n(60) {
			who := d.n(2)
			switch d.n(3) {
			case 0:
				ok(t, "Say", both[who].Say(d.n(3), strings.Repeat("x", d.n(3))))
			case 1:
				told[who] = append(told[who], both[who].Take())
			case 2: // any that was told, or none
				if n := d.n(len(told[1-who]) + 1); n > 0 {
					ok(t, "Hear", both[who].Hear(told[1-who][n-1]))
				}
			}
		}
		for range 3 {
			ok(t, "Hear", b.Hear(a.Take()), a.Hear(b.Take()))
		}
		if !slices.Equal(a.Tell(), b.Tell()) || len(a.Take()) > 0 || len(b.Take()) > 0 {
			t.Fatalf("%v and %v", a.Tell(), b.Tell())
		}
	}
}
