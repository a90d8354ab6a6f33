package spell

import (
	"fmt"
	"math"
	"slices"
	"strings"
	"testing"

	"wordhoard/api"
)

func checkNear(t *testing.T, words []string, a string, most int) {
	t.Helper()
	l, e := Near(words, a, most)
	if want := slowNear(words, a, most); e != api.OK || !slices.Equal(l, want) {
		t.Fatalf("Near(%q, %q, %d) = %v %d, want %v", words, a, most, l, e, want)
	}
}

func TestNear(t *testing.T) { // E3
	words := []string{"sing", "birds", "sung", "", "ring", "sing", "\xff", "rings"}
	l, e := Near(words, "sing", 2)
	want := []api.Close{{Word: 0, Far: 0}, {Word: 5, Far: 0}, {Word: 2, Far: 1}, {Word: 4, Far: 1}, {Word: 7, Far: 2}}
	if e != api.OK || !slices.Equal(l, want) {
		t.Errorf("it is %v %d, want %v", l, e, want)
	}
	d := new(draw)
	for range 150 {
		words := d.texts(d.n(30), 12)
		a := d.text(12)
		for most := range 10 {
			checkNear(t, words, a, most)
		}
	}
}

func TestNearOfNoWords(t *testing.T) { // E3
	for _, words := range [][]string{nil, {}} {
		if l, e := Near(words, "a", 9); len(l) != 0 || e != api.OK {
			t.Errorf("it is %v %d", l, e)
		}
	}
}

func TestNearJustAsFar(t *testing.T) { // E3
	for far := range 12 {
		for most := range 10 {
			l, e := Near([]string{strings.Repeat("\xff", far)}, "", most)
			want := []api.Close{{Word: 0, Far: far}}
			if far > most {
				want = nil
			}
			if e != api.OK || !slices.Equal(l, want) {
				t.Errorf("%d units, at most %d: %v %d", far, most, l, e)
			}
		}
	}
}

func TestNearOfMostWords(t *testing.T) { // E3
	d := new(draw)
	words := d.texts(2000, 8)
	for range 5 {
		checkNear(t, words, d.text(8), d.n(10))
	}
	same := slices.Repeat([]string{"a"}, 2000)
	l, e := Near(same, "b", 1)
	if len(l) != 2000 || e != api.OK {
		t.Fatalf("%d words, %d", len(l), e)
	}
	for i, c := range l {
		if c != (api.Close{Word: i, Far: 1}) {
			t.Fatalf("%v at %d", c, i)
		}
	}
}

func TestNearOfWrongThings(t *testing.T) { // E3, P1
	right, wrong := longTexts()
	long := wrong[0]
	most, more := make([]string, 2000), make([]string, 2001)
	spoilt := func(at int) []string {
		words := slices.Clone(most)
		words[at] = long
		return words
	}
	type asking struct {
		name  string
		words []string
		a     string
		most  int
		want  api.Errno
	}
	all := []asking{
		{"most words", most, "", 9, api.OK},
		{"more words", more, "", 0, api.ErrMany},
		{"more words, out of range, long", append(spoilt(0), ""), long, -1, api.ErrMany},
		{"out of range, long", []string{long}, long, 10, api.ErrRange},
		{"out of range, a long word", []string{long}, "", -1, api.ErrRange},
		{"first word long", spoilt(0), "", 0, api.ErrLong},
		{"some word long", spoilt(1234), "", 9, api.ErrLong},
		{"last word long", spoilt(1999), "", 9, api.ErrLong},
		{"no words, long", nil, long, 0, api.ErrLong},
		{"far words, long", []string{"b"}, long, 0, api.ErrLong},
	}
	for _, n := range []int{-1, 10, math.MinInt, math.MaxInt, 1 << 32, -1 << 32} {
		all = append(all, asking{"out of range", most, "", n, api.ErrRange}, asking{"out of range, no words", nil, "", n, api.ErrRange})
	}
	for _, s := range right {
		all = append(all, asking{"longest", []string{s, ""}, s, 9, api.OK})
	}
	for _, s := range wrong {
		all = append(all, asking{"long", []string{"a"}, s, 9, api.ErrLong}, asking{"a long word", []string{"a", s}, "a", 0, api.ErrLong})
	}
	for _, c := range all {
		l, e := Near(c.words, c.a, c.most)
		if e != c.want || e != api.OK && len(l) != 0 {
			t.Errorf("%s: %v %d, want %d", c.name, l, e, c.want)
		}
	}
}

// The lookers come to the same, however they take turns, and so do several who ask at once.
func TestNearSaysTheSameEachTime(t *testing.T) { // P3
	d := new(draw)
	words, a := d.texts(500, 9), d.text(9)
	want := slowNear(words, a, 5)
	told := make(chan string)
	for range 20 {
		go func() {
			for range 10 {
				if l, e := Near(words, a, 5); e != api.OK || !slices.Equal(l, want) {
					told <- fmt.Sprintf("it is %v %d, want %v", l, e, want)
					return
				}
			}
			told <- ""
		}()
	}
	for range 20 {
		if s := <-told; s != "" {
			t.Error(s)
		}
	}
}
