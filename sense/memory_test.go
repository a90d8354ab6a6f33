package sense

import (
	"fmt"
	"testing"

	"wordhoard/api"
)

// handed is all that is handed in, with room behind its lists.
type handed struct {
	s     api.Scene
	said  api.Saying
	order []int
	why   api.Reason
	l     [][]api.Mention
}

func (d *draw) handed() handed {
	var h handed
	h.s = d.scene(4)
	h.said = d.saying(h.s)
	orders := slowOrders(len(h.said.Phrases))
	h.order = roomy(orders[d.n(len(orders))], 77)
	_, why, _ := Why(h.s, h.said, h.order)
	h.why = roomyReason(why)
	h.said.Phrases = roomy(h.said.Phrases, api.Phrase{Quant: 77})
	h.s.Nouns = roomy(h.s.Nouns, 77)
	for i, v := range h.s.Verbs {
		for j := range v.Of {
			v.Of[j] = roomy(v.Of[j], 77)
		}
		h.s.Verbs[i].Of = roomy(v.Of, []int{77})
	}
	h.s.Verbs = roomy(h.s.Verbs, api.Verb{Places: 77})
	for _, sentence := range d.mentions(6, 6, 2) {
		h.l = append(h.l, roomy(sentence, api.Mention{Kind: 77}))
	}
	h.l = roomy(h.l, []api.Mention{{Kind: 77}})
	return h
}

func roomyReason(r api.Reason) api.Reason {
	var kids []api.Reason
	for _, kid := range r.Kids {
		kids = append(kids, roomyReason(kid))
	}
	return api.Reason{Who: r.Who, Kids: roomy(kids, api.Reason{Who: 77})}
}

func wholeReason(r api.Reason) string {
	s := fmt.Sprint(r.Who, "(")
	for _, kid := range r.Kids[:cap(r.Kids)] {
		s += wholeReason(kid)
	}
	return s + ")"
}

// whole tells all of it, with the room behind the lists.
func (h handed) whole() string {
	s := fmt.Sprint(h.s.Size, h.s.Nouns[:cap(h.s.Nouns)], h.said.Verb, h.said.Phrases[:cap(h.said.Phrases)], h.order[:cap(h.order)], wholeReason(h.why))
	for _, v := range h.s.Verbs[:cap(h.s.Verbs)] {
		s += fmt.Sprint(v.Places, ":")
		for _, list := range v.Of[:cap(v.Of)] {
			s += fmt.Sprint(list[:cap(list)])
		}
	}
	for _, sentence := range h.l[:cap(h.l)] {
		s += fmt.Sprint(sentence[:cap(sentence)])
	}
	return s
}

func (h handed) wipe() {
	for _, v := range h.s.Verbs {
		for _, list := range v.Of {
			clear(list)
		}
		clear(v.Of)
	}
	clear(h.s.Verbs)
	clear(h.s.Nouns)
	clear(h.said.Phrases)
	clear(h.order)
	for _, kid := range h.why.Kids {
		clear(kid.Kids)
	}
	clear(h.why.Kids)
	for _, sentence := range h.l {
		clear(sentence)
	}
	clear(h.l)
}

func (h handed) answers() []any {
	holds, e := Holds(h.s, h.said, h.order)
	l, f := Readings(h.s, h.said)
	so, why, g := Why(h.s, h.said, h.order)
	good, i := Good(h.s, h.said, h.order, true, h.why)
	bad, j := Good(h.s, h.said, h.order, false, h.why)
	meant, k := Refer(h.l)
	return []any{holds, e, l, f, so, why, g, good, i, bad, j, meant, k, Check(h.s)}
}

// P2, P3: what is handed in is only read, and not kept, and the answers are the same each time.
func TestInputsAreOnlyRead(t *testing.T) {
	d := draw(7)
	for range 500 {
		h := d.handed()
		before := h.whole()
		first := h.answers()
		if now := h.whole(); now != before {
			t.Fatalf("it was\n%s\nand is\n%s", before, now)
		}
		said := fmt.Sprint(first...)
		for range 3 {
			d.handed().answers()
			if again := fmt.Sprint(h.answers()...); again != said {
				t.Fatalf("it says\n%s\nthen\n%s", said, again)
			}
		}
		h.wipe()
		if now := fmt.Sprint(first...); now != said {
			t.Fatalf("it said\n%s\nwhich is now\n%s", said, now)
		}
	}
}

// apart tells whether no two lists have a place in common, the room behind them too.
func apart[T any](lists ...[]T) bool {
	places := map[*T]int{}
	for _, l := range lists {
		l = l[:cap(l)]
		for i := range l {
			places[&l[i]]++
			if places[&l[i]] > 1 {
				return false
			}
		}
	}
	return true
}

// kidsIn a reason: all its lists.
func kidsIn(r api.Reason) [][]api.Reason {
	lists := [][]api.Reason{r.Kids}
	for _, kid := range r.Kids {
		lists = append(lists, kidsIn(kid)...)
	}
	return lists
}

// P2: no two lists of an answer share memory.
func TestListsAreApart(t *testing.T) {
	d := draw(8)
	for range 500 {
		h := d.handed()
		l, _ := Readings(h.s, h.said)
		_, why, _ := Why(h.s, h.said, h.order)
		meant, _ := Refer(h.l)
		if !apart(l...) || !apart(kidsIn(why)...) || !apart(meant...) {
			t.Fatalf("%v, %v or %v: something stands in two lists", l, why, meant)
		}
	}
}
