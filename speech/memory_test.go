package speech

import (
	"fmt"
	"testing"

	"wordhoard/api"
)

// roomyPart has room behind each list, as have the others.
func roomyPart(p api.Part) api.Part {
	p.Kids = roomyParts(p.Kids)
	return p
}

func roomyParts(l []api.Part) []api.Part {
	var all []api.Part
	for _, p := range l {
		all = append(all, roomyPart(p))
	}
	return roomy(all, api.Part{Kind: 77})
}

func roomyProof(p api.Proof) api.Proof {
	var kids []api.Proof
	for _, kid := range p.Kids {
		kids = append(kids, roomyProof(kid))
	}
	p.Left, p.Goal, p.Kids = roomyParts(p.Left), roomyPart(p.Goal), roomy(kids, api.Proof{Step: 77})
	return p
}

// wholeParts tells all of parts, with the room behind their lists.
func wholeParts(l []api.Part) string {
	s := "("
	for _, p := range l[:cap(l)] {
		s += fmt.Sprint(p.Kind, p.N) + wholeParts(p.Kids)
	}
	return s + ")"
}

func wholeProof(p api.Proof) string {
	s := fmt.Sprint(p.Step, p.At, p.N) + wholeParts(p.Left) + wholeParts([]api.Part{p.Goal}) + "("
	for _, kid := range p.Kids[:cap(p.Kids)] {
		s += wholeProof(kid)
	}
	return s + ")"
}

// wipe parts, and those in them.
func wipe(l []api.Part) {
	for _, p := range l {
		wipe(p.Kids)
	}
	clear(l)
}

func wipeProof(p api.Proof) {
	wipe(p.Left)
	wipe(p.Goal.Kids)
	for _, kid := range p.Kids {
		wipeProof(kid)
	}
	clear(p.Kids)
}

// handed is all that is handed in.
type handed struct {
	proof api.Proof
	left  []api.Part
	goal  api.Part
	words [][]api.Part
}

func handedIn() handed {
	left, goal := parts("(b/(a\\b))", "((a\\b)/a)", "a"), part("b")
	cut := comes(api.StepCut, comes(api.StepOverLeft, same(base(1)), same(base(0)))[0], same(base(0)))[0]
	return handed{
		proof: roomyProof(comes(api.StepUnder, cut)[0]),
		left:  roomyParts(left),
		goal:  roomyPart(goal),
		words: roomy([][]api.Part{roomyParts(parts("a", "(b/(a\\b))")), roomyParts(parts("b", "((a\\b)/a)")), roomyParts(parts("c", "a"))}, parts("j")),
	}
}

func (h handed) whole() string {
	s := wholeProof(h.proof) + wholeParts(h.left) + wholeParts([]api.Part{h.goal})
	for _, word := range h.words[:cap(h.words)] {
		s += wholeParts(word)
	}
	return s
}

func (h handed) wipe() {
	wipeProof(h.proof)
	wipe(h.left)
	wipe(h.goal.Kids)
	for _, word := range h.words {
		wipe(word)
	}
	clear(h.words)
}

func (h handed) answers() []any {
	s, e := Print(h.left[0])
	right, f := Right(h.proof)
	p, ok, g := Prove(h.left, h.goal)
	q, i := Cutless(h.proof)
	choice, all, j := Says(h.words, h.goal)
	back, k := Read(s)
	return []any{s, e, right, f, p, ok, g, q, i, choice, all, j, back, k, Check(h.goal)}
}

// P2, P3: what is handed in is only read, and not kept, and the answers are the same each time.
func TestInputsAreOnlyRead(t *testing.T) {
	h := handedIn()
	before := h.whole()
	first := h.answers()
	if now := h.whole(); now != before {
		t.Fatalf("it was\n%s\nand is\n%s", before, now)
	}
	said := fmt.Sprint(first...)
	for range 5 {
		if again := fmt.Sprint(h.answers()...); again != said {
			t.Fatalf("it says\n%s\nthen\n%s", said, again)
		}
	}
	h.wipe()
	if now := fmt.Sprint(first...); now != said {
		t.Errorf("it said\n%s\nwhich is now\n%s", said, now)
	}
}

// places where parts and proofs lie, with those in the room behind lists.
type places struct {
	parts  map[*api.Part]int
	proofs map[*api.Proof]int
}

func (m places) addParts(l []api.Part) {
	all := l[:cap(l)]
	for i := range all {
		m.parts[&all[i]]++
	}
	for _, p := range l {
		m.addParts(p.Kids)
	}
}

func (m places) addProof(p api.Proof) {
	m.addParts(p.Left)
	m.addParts(p.Goal.Kids)
	all := p.Kids[:cap(p.Kids)]
	for i := range all {
		m.proofs[&all[i]]++
	}
	for _, kid := range p.Kids {
		m.addProof(kid)
	}
}

// P2: no two lists of a proof share memory, and none of them any that was handed in.
func TestListsOfAProofAreApart(t *testing.T) {
	d := draw(1)
	told := 0
	for range 10 {
		for _, p := range d.proofs(80) {
			q, e := Cutless(p)
			if e != api.OK {
				continue
			}
			told++
			m := places{parts: map[*api.Part]int{}, proofs: map[*api.Proof]int{}}
			m.addProof(q)
			for _, n := range m.parts {
				if n > 1 {
					t.Fatalf("%v: a part stands in two lists", q)
				}
			}
			for _, n := range m.proofs {
				if n > 1 {
					t.Fatalf("%v: a proof stands in two lists", q)
				}
			}
			many := len(m.parts)
			given := places{parts: map[*api.Part]int{}, proofs: map[*api.Proof]int{}}
			given.addProof(p)
			for place := range given.parts {
				delete(m.parts, place)
			}
			if len(m.parts) != many {
				t.Fatalf("%v: a part stands in what was handed in", q)
			}
		}
	}
	if told < 200 {
		t.Errorf("only %d", told)
	}
}

// P2: nor do those of a part.
func TestListsOfAPartAreApart(t *testing.T) {
	m := places{parts: map[*api.Part]int{}}
	m.addParts(parts("((a/b)\\(a/b))", "((a/b)\\(a/b))"))
	if len(m.parts) < 2+2*6 {
		t.Errorf("only %d places", len(m.parts))
	}
	for _, n := range m.parts {
		if n > 1 {
			t.Errorf("a part stands in two lists")
		}
	}
}
