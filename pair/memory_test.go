package pair

import (
	"fmt"
	"testing"

	"wordhoard/api"
)

// handed is all that is handed in, with room behind its lists.
type handed struct {
	g     api.Pairing
	text  []int
	l     []api.Duo
	table [][]string
}

func (d *draw) handed() handed {
	h := handed{g: d.pairing(3, 8, 3, 2), text: roomy(d.text(5, 2), 77)}
	for i, r := range h.g.Rules {
		h.g.Rules[i].Left, h.g.Rules[i].Right = roomy(r.Left, 77), roomy(r.Right, 77)
	}
	h.g.Rules = roomy(h.g.Rules, api.Pair{Head: 77})
	for _, duo := range d.duos(1+d.n(3), 3, 3) {
		h.l = append(h.l, api.Duo{From: roomy(duo.From, 77), To: roomy(duo.To, 77)})
	}
	h.l = roomy(h.l, api.Duo{From: []int{77}})
	for _, row := range d.table(3, 9) {
		h.table = append(h.table, roomy(row, "77"))
	}
	h.table = roomy(h.table, []string{"77"})
	return h
}

// whole tells all of it, with the room behind the lists.
func (h handed) whole() string {
	s := fmt.Sprint(h.g.Kinds, h.text[:cap(h.text)])
	for _, r := range h.g.Rules[:cap(h.g.Rules)] {
		s += fmt.Sprint(r.Head, r.Left[:cap(r.Left)], r.Right[:cap(r.Right)], ";")
	}
	for _, duo := range h.l[:cap(h.l)] {
		s += fmt.Sprint(duo.From[:cap(duo.From)], duo.To[:cap(duo.To)], ";")
	}
	for _, row := range h.table[:cap(h.table)] {
		s += fmt.Sprint(row[:cap(row)])
	}
	return s
}

func (h handed) wipe() {
	for _, r := range h.g.Rules {
		clear(r.Left)
		clear(r.Right)
	}
	clear(h.g.Rules)
	clear(h.text)
	for _, duo := range h.l {
		clear(duo.From)
		clear(duo.To)
	}
	clear(h.l)
	for _, row := range h.table {
		clear(row)
	}
	clear(h.table)
}

func (h handed) answers() []any {
	l, e := Translate(h.g, h.text)
	turned, f := Turn(h.g)
	p, g := Chance(h.l, h.table)
	better, i := Better(h.l, h.table)
	return []any{l, e, turned, f, p, g, better, i, Check(h.g)}
}

// P2, P3: what is handed in is only read, and not kept, and the answers are the same each time.
func TestInputsAreOnlyRead(t *testing.T) {
	d := draw(7)
	for range 500 {
		h := d.handed()
		before := h.whole()
		first := h.answers()
		if now := h.whole(); now != before {
			t.Fatalf("it was\n%s\nand is\n%s", before, now)
		}
		said := fmt.Sprint(first...)
		for range 3 {
			d.handed().answers()
			if again := fmt.Sprint(h.answers()...); again != said {
				t.Fatalf("it says\n%s\nthen\n%s", said, again)
			}
		}
		h.wipe()
		if now := fmt.Sprint(first...); now != said {
			t.Fatalf("it said\n%s\nwhich is now\n%s", said, now)
		}
	}
}

// apart tells whether no two lists have a place in common, the room behind them too.
func apart[T any](lists ...[]T) bool {
	places := map[*T]int{}
	for _, l := range lists {
		l = l[:cap(l)]
		for i := range l {
			places[&l[i]]++
			if places[&l[i]] > 1 {
				return false
			}
		}
	}
	return true
}

// P2: no two lists of an answer share memory, nor do those of two answers.
func TestListsAreApart(t *testing.T) {
	d := draw(8)
	for range 500 {
		h := d.handed()
		l, _ := Translate(h.g, h.text)
		again, _ := Translate(h.g, h.text)
		turned, _ := Turn(h.g)
		var sides [][]int
		for _, r := range append(h.g.Rules, turned.Rules...) {
			sides = append(sides, r.Left, r.Right)
		}
		better, _ := Better(h.l, h.table)
		if !apart(append(l, again...)...) || !apart(sides...) || !apart(append(better, h.table...)...) {
			t.Fatalf("%v, %v or %v: something stands in two lists", l, turned, better)
		}
	}
	for words := 1; words <= api.MaxVoc; words++ {
		table, _ := Even(words)
		again, _ := Even(words)
		if !apart(append(table, again...)...) {
			t.Errorf("%v: something stands in two rows", table)
		}
	}
}
