package spell

import (
	"strings"
	"testing"

	"wordhoard/api"
)

const smile = "\U0001f600" // a letter of four bytes

func TestFar(t *testing.T) { // E1
	for _, c := range []struct {
		a, b string
		want int
	}{
		{"kitten", "sitting", 3},
		{"", "", 0},
		{"", "abc", 3},
		{"abc", "", 3},
		{"abc", "abc", 0},
		{"ab", "ba", 2},
		{"abcd", "bcde", 2},
		{"Ab", "ab", 1},
		{"\u00e9t\u00e9", "ete", 2},
		{"e\u0301", "\u00e9", 2},
		{"\xff", "\xfe", 1},
		{"\xff\xfe", "\xfe\xff", 2},
		{"\xff", "\ufffd", 1},
		{"\xc3", "\xc3\xa9", 1},
		{"\xa9", "\xc3\xa9", 1},
		{"\xe2\x82", "\xe2\x82\xac", 2},
		{smile, "", 1},
		{"\x00", "", 1},
	} {
		if n, e := Far(c.a, c.b); n != c.want || e != api.OK {
			t.Errorf("Far(%q, %q) = %d %d, want %d", c.a, c.b, n, e, c.want)
		}
	}
}

// Strays that are kept may come to stand as one letter; the units count, not the bytes.
func TestFarGoesByUnitsBothWays(t *testing.T) { // E1, E4
	for _, a := range []string{"\xc3x\xa9", "\xa9\xc3", "x\xc3y\xa9z"} {
		for _, b := range []string{"\u00e9", "x\u00e9z"} {
			want := slowFar(a, b)
			n, _ := Far(a, b)
			back, _ := Far(b, a)
			if n != want || back != want {
				t.Errorf("%q and %q: %d and %d, want %d", a, b, n, back, want)
			}
		}
	}
	if n, _ := Far("\xc3x\xa9", "\u00e9"); n != 3 {
		t.Errorf("it is %d", n)
	}
}

// around are all texts of the units a, b and a stray that one edit makes of a text, up to a length.
func around(s string, most int) []string {
	var all []string
	for i := range len(s) + 1 {
		if i < len(s) {
			all = append(all, s[:i]+s[i+1:])
		}
		for _, unit := range []string{"a", "b", "\xff"} {
			if i < len(s) {
				all = append(all, s[:i]+unit+s[i+1:])
			}
			if len(s) < most {
				all = append(all, s[:i]+unit+s[i:])
			}
		}
	}
	return all
}

// No cheapest way needs a text that is longer than both, so that going from text to text, edit by edit, finds it.
func TestFarIsTheFewestEdits(t *testing.T) { // E1
	const most = 4
	reach := func(from string) map[string]int {
		steps, todo := map[string]int{from: 0}, []string{from}
		for len(todo) > 0 {
			s := todo[0]
			todo = todo[1:]
			for _, other := range around(s, most) {
				if _, met := steps[other]; !met {
					steps[other], todo = steps[s]+1, append(todo, other)
				}
			}
		}
		return steps
	}
	all := reach("")
	if len(all) != 1+3+9+27+81 {
		t.Fatalf("%d texts", len(all))
	}
	for a := range all {
		for b, want := range reach(a) {
			if n, e := Far(a, b); n != want || e != api.OK {
				t.Fatalf("Far(%q, %q) = %d %d, want %d", a, b, n, e, want)
			}
		}
	}
}

func TestFarOfDrawnTexts(t *testing.T) { // E1
	d := new(draw)
	for i := range 4000 {
		most := 12
		if i%100 == 0 {
			most = 100
		}
		a, b := d.text(most), d.text(most)
		if n, e := Far(a, b); n != slowFar(a, b) || e != api.OK {
			t.Fatalf("Far(%q, %q) = %d %d, want %d", a, b, n, e, slowFar(a, b))
		}
	}
}

// checkWay asks of edits all that is promised of them.
func checkWay(t *testing.T, a, b string) {
	t.Helper()
	l, e := Way(a, b)
	if e != api.OK {
		t.Fatalf("Way(%q, %q): %d", a, b, e)
	}
	rest, made := slowUnits(a), ""
	for _, edit := range l {
		comes := edit.Kind == api.EditTurn || edit.Kind == api.EditPut
		if comes && len(slowUnits(edit.Text)) != 1 || !comes && edit.Text != "" {
			t.Fatalf("Way(%q, %q): %v", a, b, l)
		}
		if edit.Kind == api.EditPut {
			made += edit.Text
			continue
		}
		if len(rest) == 0 || edit.Kind == api.EditTurn && edit.Text == rest[0] {
			t.Fatalf("Way(%q, %q): %v", a, b, l)
		}
		switch edit.Kind {
		case api.EditKeep:
			made += rest[0]
		case api.EditTurn:
			made += edit.Text
		case api.EditDrop:
		default:
			t.Fatalf("Way(%q, %q): %v", a, b, l)
		}
		rest = rest[1:]
	}
	if made != b || len(rest) != 0 || costOf(l) != slowFar(a, b) {
		t.Fatalf("Way(%q, %q): %v makes %q for %d, and leaves %q", a, b, l, made, costOf(l), rest)
	}
	if s, e := Do(a, l); s != b || e != api.OK { // E4
		t.Fatalf("Do(%q, %v) = %q %d, want %q", a, l, s, e, b)
	}
}

func TestWay(t *testing.T) { // E1, E4
	d := new(draw)
	for _, a := range []string{"", "a", "kitten", "sitting", "\xff\xfe", "\u00e9t\u00e9", "\xc3x\xa9", "\u00e9"} {
		for _, b := range []string{"", "a", "kitten", "sitting", "\xff\xfe", "\u00e9t\u00e9", "\xc3x\xa9", "\u00e9"} {
			checkWay(t, a, b)
		}
	}
	for range 4000 {
		checkWay(t, d.text(10), d.text(10))
	}
	for range 30 {
		checkWay(t, d.text(100), d.text(100))
	}
	checkWay(t, strings.Repeat("a", 200), strings.Repeat(smile, 200))
	checkWay(t, strings.Repeat("ab", 100), strings.Repeat("ba", 100))
	checkWay(t, strings.Repeat("\xff", 200), "")
	checkWay(t, "", strings.Repeat("\xff", 200))
}

func TestNothingIsToBeDoneForTheSameText(t *testing.T) { // E1
	l, e := Way("", "")
	if len(l) != 0 || e != api.OK {
		t.Errorf("Way of nothing: %v %d", l, e)
	}
	l, e = Way("a\xff", "a\xff")
	if len(l) != 2 || l[0] != (api.Edit{Kind: api.EditKeep}) || l[1] != l[0] || e != api.OK {
		t.Errorf("Way of the same: %v %d", l, e)
	}
}

// longest texts, and those with one unit more.
func longTexts() (right, wrong []string) {
	for _, unit := range []string{"a", "\u00e9", "\u20ac", smile, "\xff", "\xc3"} {
		right = append(right, strings.Repeat(unit, 200))
		wrong = append(wrong, strings.Repeat(unit, 201))
	}
	right = append(right, strings.Repeat(smile, 199)+"\xf0")
	wrong = append(wrong, strings.Repeat(smile, 200)+"\xf0", strings.Repeat("a", 199)+"\xe2\x82", "\xf0\x9f\x98"+strings.Repeat("a", 198), strings.Repeat("a", 100000))
	return right, wrong
}

func TestLongTexts(t *testing.T) { // E1, P1
	right, wrong := longTexts()
	for _, s := range right {
		for _, other := range append(right, "", "x") {
			n, e := Far(s, other)
			l, f := Way(other, s)
			if want := slowFar(s, other); n != want || e != api.OK || costOf(l) != want || f != api.OK {
				t.Errorf("%d bytes and %d bytes: %d %d, %d %d, want %d", len(s), len(other), n, e, costOf(l), f, want)
			}
		}
	}
	for _, s := range wrong {
		for _, other := range append(right, "", "x", s) {
			for _, c := range [][2]string{{s, other}, {other, s}} {
				if n, e := Far(c[0], c[1]); n != 0 || e != api.ErrLong {
					t.Errorf("Far of %d bytes and %d bytes: %d %d", len(c[0]), len(c[1]), n, e)
				}
				if l, e := Way(c[0], c[1]); len(l) != 0 || e != api.ErrLong {
					t.Errorf("Way from %d bytes to %d bytes: %v %d", len(c[0]), len(c[1]), l, e)
				}
			}
		}
	}
}

func TestFarIsADistance(t *testing.T) { // E4
	d := new(draw)
	far := func(a, b string) int {
		n, e := Far(a, b)
		if e != api.OK {
			t.Fatalf("Far(%q, %q): %d", a, b, e)
		}
		return n
	}
	for range 20000 {
		a, b, c := d.text(5), d.text(5), d.text(5)
		if (far(a, b) == 0) != (a == b) || far(a, a) != 0 {
			t.Fatalf("%q and %q are %d apart", a, b, far(a, b))
		}
		if far(a, b) != far(b, a) {
			t.Fatalf("%q and %q are %d apart, and %d", a, b, far(a, b), far(b, a))
		}
		if far(a, c) > far(a, b)+far(b, c) {
			t.Fatalf("from %q to %q it is nearer by way of %q", a, c, b)
		}
	}
}
