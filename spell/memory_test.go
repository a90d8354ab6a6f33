package spell

import (
	"fmt"
	"slices"
	"strings"
	"testing"

	"wordhoard/api"
)

func TestWhatIsHandedInIsOnlyRead(t *testing.T) { // P2, P3
	d := new(draw)
	for range 300 {
		words := roomy(d.texts(d.n(20), 6), "behind")
		a, b := d.text(6), d.text(6)
		way, _ := Way(a, b)
		l := roomy(way, api.Edit{Kind: 77, Text: "behind"})
		was := fmt.Sprint(words[:cap(words)], l[:cap(l)])
		ask := func() string {
			n, e := Far(a, b)
			w, f := Way(a, b)
			s, g := Do(a, l)
			near, h := Near(words, a, 4)
			told := fmt.Sprint(n, e, w, f, s, g, near, h)
			clear(w[:cap(w)])
			clear(near[:cap(near)])
			return told
		}
		told := ask()
		if ask() != told {
			t.Fatal("the same was not answered twice")
		}
		if fmt.Sprint(words[:cap(words)], l[:cap(l)]) != was {
			t.Fatal("what was handed in was changed")
		}
	}
}

func TestWhatIsHandedInIsNotKept(t *testing.T) { // P2
	words := []string{"ab", "b", "abc"}
	near, _ := Near(words, "ab", 1)
	clear(words)
	if want := []api.Close{{Word: 0, Far: 0}, {Word: 1, Far: 1}, {Word: 2, Far: 1}}; !slices.Equal(near, want) {
		t.Errorf("it is %v", near)
	}
	if near, _ := Near(words, "ab", 2); len(near) != 3 || near[0].Far != 2 {
		t.Errorf("then it is %v", near)
	}
	l := []api.Edit{{Kind: api.EditTurn, Text: "x"}}
	s, _ := Do("a", l)
	l[0].Text = "y"
	if s != "x" {
		t.Errorf("it is %q", s)
	}
}

func TestGreatThings(t *testing.T) { // P1, P4
	great := strings.Repeat("\xff", 1<<26)
	if n, e := Far(great, "a"); n != 0 || e != api.ErrLong {
		t.Errorf("Far: %d %d", n, e)
	}
	if l, e := Way("a", great); len(l) != 0 || e != api.ErrLong {
		t.Errorf("Way: %v %d", l, e)
	}
	if s, e := Do(great, nil); s != "" || e != api.ErrLong {
		t.Errorf("Do of a text: %q %d", s, e)
	}
	if s, e := Do("", edits(1, put, great)); s != "" || e != api.ErrForm {
		t.Errorf("Do of a great edit: %q %d", s, e)
	}
	if s, e := Do("", edits(1<<20, put, "a")); s != "" || e != api.ErrLong {
		t.Errorf("Do of many edits: %q %d", s, e)
	}
	if l, e := Near(slices.Repeat([]string{great}, 2000), "a", 9); len(l) != 0 || e != api.ErrLong {
		t.Errorf("Near: %v %d", l, e)
	}
	// as many words as there may be, as long as they may be
	words := slices.Repeat([]string{strings.Repeat(smile, 191) + strings.Repeat("\u00e9", 9)}, 2000)
	l, e := Near(words, strings.Repeat(smile, 191)+strings.Repeat("\u20ac", 9), 9)
	if len(l) != 2000 || e != api.OK || l[1999] != (api.Close{Word: 1999, Far: 9}) {
		t.Errorf("Near: %d words, %d", len(l), e)
	}
}
