package prove

import (
	"fmt"
	"testing"

	"wordhoard/api"
)

// handed is all that is handed in.
type handed struct {
	world    []int
	premises []api.Claim
	lines    []api.Line
}

func (d *draw) handed() handed {
	var h handed
	for range d.n(9) {
		h.world = append(h.world, d.n(1<<api.MaxNouns))
	}
	premises := d.claims(1+d.n(8), 3)
	lines, _, _ := Argue(premises, d.claim(3))
	for _, l := range lines {
		l.From = roomy(l.From, 77)
		h.lines = append(h.lines, l)
	}
	h.world, h.premises, h.lines = roomy(h.world, 77), roomy(premises, all(7, 7)), roomy(h.lines, api.Line{Rule: 77})
	return h
}

// whole tells all of it, with the room behind the lists.
func (h handed) whole() string {
	s := fmt.Sprint(h.world[:cap(h.world)], h.premises[:cap(h.premises)])
	for _, l := range h.lines[:cap(h.lines)] {
		s += fmt.Sprint(l.Rule, l.Claim, l.From[:cap(l.From)])
	}
	return s
}

func (h handed) wipe() {
	clear(h.world)
	clear(h.premises)
	for _, l := range h.lines {
		clear(l.From)
	}
	clear(h.lines)
}

func (h handed) answers(c api.Claim) []any {
	ok, e := Holds(h.world, c)
	l, is, f := Argue(h.premises, c)
	world, no, g := Against(h.premises, c)
	right, i := Sound(h.premises, h.lines)
	return []any{ok, e, l, is, f, world, no, g, right, i, Check(c)}
}

// P2, P3: what is handed in is only read, and not kept, and the answers are the same each time.
func TestInputsAreOnlyRead(t *testing.T) {
	d := draw(1)
	for range 300 {
		h, c := d.handed(), d.claim(3)
		before := h.whole()
		first := h.answers(c)
		if now := h.whole(); now != before {
			t.Fatalf("it was\n%s\nand is\n%s", before, now)
		}
		said := fmt.Sprint(first...)
		for range 4 {
			Argue(d.claims(3, 3), d.claim(3))
			if again := fmt.Sprint(h.answers(c)...); again != said {
				t.Fatalf("it says\n%s\nthen\n%s", said, again)
			}
		}
		h.wipe()
		if now := fmt.Sprint(first...); now != said {
			t.Fatalf("it said\n%s\nwhich is now\n%s", said, now)
		}
	}
}

// P2: no two lists of an argument share memory.
func TestListsAreApart(t *testing.T) {
	d := draw(2)
	told := 0
	for range 2000 {
		l, ok, _ := Argue(d.claims(d.n(8), 3), d.claim(3))
		if !ok {
			continue
		}
		told++
		places := map[*int]int{}
		for _, line := range l {
			from := line.From[:cap(line.From)]
			for i := range from {
				places[&from[i]]++
			}
		}
		for _, n := range places {
			if n > 1 {
				t.Fatalf("%v: a number stands in two lists", l)
			}
		}
	}
	if told < 200 {
		t.Errorf("only %d", told)
	}
}
