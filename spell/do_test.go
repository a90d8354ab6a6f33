package spell

import (
	"math"
	"slices"
	"strings"
	"testing"

	"wordhoard/api"
)

const (
	keep = api.EditKeep
	turn = api.EditTurn
	drop = api.EditDrop
	put  = api.EditPut
)

// doing is a text, edits, and what Do answers.
type doing struct {
	name string
	a    string
	l    []api.Edit
	want string
	err  api.Errno
}

func (c doing) check(t *testing.T) {
	t.Helper()
	if s, e := Do(c.a, c.l); s != c.want || e != c.err {
		t.Errorf("%s: %q %d, want %q %d", c.name, s, e, c.want, c.err)
	}
}

func TestDo(t *testing.T) { // E2
	for _, c := range []doing{
		{"nothing", "", nil, "", api.OK},
		{"all is kept", "a\xff\u00e9", edits(3, keep, ""), "a\xff\u00e9", api.OK},
		{"all is dropped", "a\xff\u00e9", edits(3, drop, ""), "", api.OK},
		{"all is turned", "a\xff\u00e9", edits(3, turn, smile), smile + smile + smile, api.OK},
		{"something is put", "", edits(2, put, "\xff"), "\xff\xff", api.OK},
		{"each in its place", "abc", []api.Edit{{Kind: put, Text: "1"}, {Kind: keep}, {Kind: put, Text: "2"}, {Kind: drop}, {Kind: put, Text: "3"}, {Kind: turn, Text: "4"}, {Kind: put, Text: "5"}}, "1a2345", api.OK},
		{"turned into itself", "a", edits(1, turn, "a"), "a", api.OK},
		{"turned into nought", "a", edits(1, turn, "\x00"), "\x00", api.OK},
		{"turned into a stray", "a", edits(1, turn, "\xe2"), "\xe2", api.OK},
		{"turned into the letter of strays", "a", edits(1, turn, "\ufffd"), "\ufffd", api.OK},
		{"strays come to stand together", "\xc3x\xa9", []api.Edit{{Kind: keep}, {Kind: drop}, {Kind: keep}}, "\u00e9", api.OK},
	} {
		c.check(t)
	}
}

func TestDoOfEditsThatAreNone(t *testing.T) { // E2, P1
	for _, kind := range []int{0, 5, -1, -4, 1 << 32, 1<<32 + 1, math.MinInt, math.MaxInt} {
		for _, text := range []string{"", "x"} {
			doing{"no kind", "a", edits(1, kind, text), "", api.ErrForm}.check(t)
			doing{"no kind behind", "a", append(edits(1, keep, ""), api.Edit{Kind: kind, Text: text}), "", api.ErrForm}.check(t)
		}
	}
	for _, text := range []string{"", "xy", "\xff\xff", "\xe2\x82", "\xf0\x9f\x98", "\u00e9x", "e\u0301", smile + "\xf0", "aaaa", "\xed\xa0\x80", strings.Repeat("x", 201)} {
		doing{"turned into no unit", "a", edits(1, turn, text), "", api.ErrForm}.check(t)
		doing{"no unit is put", "", edits(1, put, text), "", api.ErrForm}.check(t)
		doing{"no unit is put behind", "a", append(edits(1, keep, ""), edits(1, put, text)...), "", api.ErrForm}.check(t)
	}
	for _, text := range []string{"a", "x", "\xff", "\x00", "xy"} {
		doing{"kept with a text", "a", edits(1, keep, text), "", api.ErrForm}.check(t)
		doing{"dropped with a text", "a", edits(1, drop, text), "", api.ErrForm}.check(t)
	}
}

func TestDoTakesJustTheUnits(t *testing.T) { // E2
	for _, a := range []string{"", "a", "ab", "\u00e9\xff", "\xc3x\xa9", smile + smile + smile} {
		for kind, text := range map[int]string{keep: "", drop: "", turn: "x"} {
			for n := range 6 {
				l := append(edits(3, put, "y"), edits(n, kind, text)...)
				want := api.ErrForm
				if n == len(slowUnits(a)) {
					want = api.OK
				}
				if s, e := Do(a, l); e != want || e != api.OK && s != "" {
					t.Errorf("Do(%q, %v) = %q %d", a, l, s, e)
				}
			}
		}
	}
	doing{"units, not bytes", "\u00e9", edits(2, keep, ""), "", api.ErrForm}.check(t)
	doing{"puts take none", "a", edits(1, put, "x"), "", api.ErrForm}.check(t)
}

func TestDoOfMuch(t *testing.T) { // E2
	right, wrong := longTexts()
	for _, s := range right {
		doing{"most is kept", s, edits(200, keep, ""), s, api.OK}.check(t)
		doing{"most is turned", s, edits(200, turn, smile), strings.Repeat(smile, 200), api.OK}.check(t)
		doing{"most is dropped, as much is put", s, append(edits(200, drop, ""), edits(200, put, "x")...), strings.Repeat("x", 200), api.OK}.check(t)
		doing{"one more is put", s, append(edits(200, keep, ""), edits(1, put, "x")...), "", api.ErrLong}.check(t)
		doing{"one more is put ahead", s, append(edits(1, put, "x"), edits(200, turn, "y")...), "", api.ErrLong}.check(t)
		doing{"one more than was dropped", s, append(edits(200, drop, ""), edits(201, put, "x")...), "", api.ErrLong}.check(t)
		doing{"form ahead of much", s, append(edits(199, keep, ""), edits(2, put, "x")...), "", api.ErrForm}.check(t)
		doing{"a wrong edit behind much", s, slices.Concat(edits(200, keep, ""), edits(300, put, "x"), edits(1, 0, "")), "", api.ErrForm}.check(t)
	}
	doing{"all of it put", "", edits(200, put, "x"), strings.Repeat("x", 200), api.OK}.check(t)
	doing{"too much put", "", edits(201, put, "x"), "", api.ErrLong}.check(t)
	// of strays that come to stand together there are fewer units than edits: the edits count
	joined := slices.Repeat([]api.Edit{{Kind: put, Text: "\xc3"}, {Kind: put, Text: "\xa9"}}, 101)
	doing{"units that join", "", joined[:200], strings.Repeat("\u00e9", 100), api.OK}.check(t)
	doing{"too many units that join", "", joined, "", api.ErrLong}.check(t)
	for _, s := range wrong {
		doing{"a long text", s, edits(len(slowUnits(s)), drop, ""), "", api.ErrLong}.check(t)
		doing{"a long text, and no edits", s, nil, "", api.ErrLong}.check(t)
		doing{"a long text, and wrong edits", s, edits(1, 0, ""), "", api.ErrLong}.check(t)
	}
}
