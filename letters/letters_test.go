package letters

import (
	"math"
	"reflect"
	"strings"
	"testing"

	"wordhoard/api"
)

// draw tells numbers that look like chance, the same each time.
type draw uint64

func (d *draw) n(n int) int {
	*d = *d*6364136223846793005 + 1442695040888963407
	return int(uint64(*d) >> 33 % uint64(n))
}

// texts of letters whole, cut off and spoilt, so that all kinds of units meet.
func texts() []string {
	d := new(draw)
	parts := []string{"a", "Z", "0", "9", " ", "\t", "\n", "\r", ".", "\u00c0", "\u00d7", "\u00f7", "\u00df", "\u03a2", "\u0410", "\u0400",
		"\ufffd", "\ud7ff", "\ue000", "\U00010000", "\U0010ffff", "\x00", "\x7f", "\x80", "\xbf", "\xc0", "\xc1", "\xc3", "\xe0", "\xe2\x82", "\xed\xa0\x80",
		"\xef\xbf", "\xf0\x9f", "\xf0\x80\x80\x80", "\xf4\x90\x80\x80", "\xf5", "\xff"}
	all := append([]string{""}, parts...)
	for range 3000 {
		var b strings.Builder
		for range d.n(12) {
			if d.n(4) == 0 {
				b.WriteByte(byte(d.n(256)))
			} else {
				b.WriteString(parts[d.n(len(parts))])
			}
		}
		all = append(all, b.String())
	}
	return all
}

// written is how a letter is written, by the rule and not by the library.
func written(c int) string {
	switch {
	case c < 1<<7:
		return string([]byte{byte(c)})
	case c < 1<<11:
		return string([]byte{0xc0 | byte(c>>6), 0x80 | byte(c&63)})
	case c < 1<<16:
		return string([]byte{0xe0 | byte(c>>12), 0x80 | byte(c>>6&63), 0x80 | byte(c&63)})
	}
	return string([]byte{0xf0 | byte(c>>18), 0x80 | byte(c>>12&63), 0x80 | byte(c>>6&63), 0x80 | byte(c&63)})
}

func isLetter(c int) bool { return c >= 0 && c <= 1114111 && (c < 55296 || c > 57343) }

// slowUnits tries each length at each place.
func slowUnits(s string, known map[string]int) []api.Unit {
	units := []api.Unit{}
	for at := 0; at < len(s); {
		unit := api.Unit{At: at, Len: 1, Letter: -1}
		for n := 1; n <= 4 && at+n <= len(s); n++ {
			if c, ok := known[s[at:at+n]]; ok {
				unit = api.Unit{At: at, Len: n, Letter: c}
			}
		}
		units = append(units, unit)
		at += unit.Len
	}
	return units
}

func TestUnitsOfTexts(t *testing.T) { // A1
	known := map[string]int{}
	for c := 0; c <= 1114111; c++ {
		if isLetter(c) {
			known[written(c)] = c
		}
	}
	for _, s := range texts() {
		if got, want := Units(s), slowUnits(s, known); len(got) != len(want) || len(got) > 0 && !reflect.DeepEqual(got, want) {
			t.Fatalf("Units(%q) = %v, want %v", s, got, want)
		}
	}
}

func TestUnitsTellsTheLetterOfStraysFromStrays(t *testing.T) { // A1
	want := []api.Unit{{At: 0, Len: 3, Letter: 65533}, {At: 3, Len: 1, Letter: -1}, {At: 4, Len: 1, Letter: -1}, {At: 5, Len: 3, Letter: 65533}}
	if got := Units("\ufffd\xef\xbf\ufffd"); !reflect.DeepEqual(got, want) {
		t.Errorf("it is %v, want %v", got, want)
	}
}

func TestUnitsTwoByteStarts(t *testing.T) { // A1: each two bytes, each lone byte
	for a := range 256 {
		for b := range 256 {
			s := string([]byte{byte(a), byte(b)})
			units := Units(s)
			one := a >= 0xc2 && a <= 0xdf && b >= 0x80 && b <= 0xbf
			if one != (len(units) == 1) {
				t.Fatalf("Units(%q) = %v", s, units)
			}
			if !one && (units[0].Letter == -1) != (a >= 128) {
				t.Fatalf("Units(%q) = %v", s, units)
			}
		}
	}
}

func TestEncode(t *testing.T) { // A1
	for c := -3; c <= 1114115; c++ {
		s, e := Encode(c)
		if !isLetter(c) {
			if s != "" || e != api.ErrRange {
				t.Fatalf("Encode(%d) = %q %d", c, s, e)
			}
			continue
		}
		if s != written(c) || e != api.OK {
			t.Fatalf("Encode(%d) = %q %d", c, s, e)
		}
		if u := Units(s); len(u) != 1 || u[0] != (api.Unit{At: 0, Len: len(s), Letter: c}) {
			t.Fatalf("Units(%q) = %v", s, u)
		}
	}
	// numbers that would be letters if their upper half were cut off
	for _, c := range []int{math.MinInt, math.MaxInt, 1<<32 + 65, -(1 << 32) + 65, 1<<31 + 65, 1<<16<<16 + 8364} {
		if s, e := Encode(c); s != "" || e != api.ErrRange {
			t.Errorf("Encode(%d) = %q %d", c, s, e)
		}
	}
}

func TestFoldOfEachLetter(t *testing.T) { // A2
	more := map[int]int{}
	add := func(first, last, by int) {
		for c := first; c <= last; c++ {
			more[c] = by
		}
	}
	add(65, 90, 32)
	add(192, 222, 32)
	add(913, 939, 32)
	add(1040, 1071, 32)
	add(1024, 1039, 80)
	delete(more, 215)
	delete(more, 930)
	for c := 0; c <= 1114111; c++ {
		if isLetter(c) && Fold(written(c)) != written(c+more[c]) {
			t.Fatalf("Fold of %d is %q", c, Fold(written(c)))
		}
	}
	for b := 128; b < 256; b++ {
		if s := string([]byte{byte(b)}); Fold(s) != s {
			t.Errorf("Fold(%q) = %q", s, Fold(s))
		}
	}
	if got := Fold("\u00c9T\xff"); got != "\u00e9t\xff" {
		t.Errorf("it is %q", got)
	}
}

func wantKind(c int) int {
	switch {
	case c == -1:
		return api.PieceStray
	case strings.ContainsRune("ABCDEFGHIJKLMNOPQRSTUVWXYZabcdefghijklmnopqrstuvwxyz", rune(c)):
		return api.PieceWord
	case c >= 192 && c != 215 && c != 247:
		return api.PieceWord
	case strings.ContainsRune("0123456789", rune(c)):
		return api.PieceNumber
	case strings.ContainsRune(" \t\n", rune(c)):
		return api.PieceBlank
	}
	return api.PieceSign
}

func TestPiecesOfEachLetter(t *testing.T) { // A3
	for c := 0; c <= 1114111; c++ {
		if !isLetter(c) {
			continue
		}
		s := written(c) + written(c)
		kind := wantKind(c)
		want := []api.Piece{{Kind: kind, At: 0, Len: len(s)}}
		if kind == api.PieceSign {
			want = []api.Piece{{Kind: kind, At: 0, Len: len(s) / 2}, {Kind: kind, At: len(s) / 2, Len: len(s) / 2}}
		}
		if got := Pieces(s); !reflect.DeepEqual(got, want) {
			t.Fatalf("Pieces(%q) = %v, want %v", s, got, want)
		}
	}
}

func TestPiecesOfTexts(t *testing.T) { // A3
	if got := Pieces(""); len(got) != 0 {
		t.Errorf("Pieces of nothing: %v", got)
	}
	for _, s := range texts() {
		var want []api.Piece
		for _, u := range Units(s) {
			kind, last := wantKind(u.Letter), len(want)-1
			if last >= 0 && want[last].Kind == kind && kind <= api.PieceBlank {
				want[last].Len += u.Len
			} else {
				want = append(want, api.Piece{Kind: kind, At: u.At, Len: u.Len})
			}
		}
		if got := Pieces(s); len(got)+len(want) > 0 && !reflect.DeepEqual(got, want) {
			t.Fatalf("Pieces(%q) = %v, want %v", s, got, want)
		}
	}
}

func TestWhatFollows(t *testing.T) { // A4
	for _, s := range texts() {
		at := 0
		for _, u := range Units(s) {
			if u.At != at || u.Len < 1 {
				t.Fatalf("Units(%q) = %v", s, Units(s))
			}
			at += u.Len
		}
		end := 0
		for _, p := range Pieces(s) {
			if p.At != end || p.Len < 1 {
				t.Fatalf("Pieces(%q) = %v", s, Pieces(s))
			}
			end += p.Len
		}
		if at != len(s) || end != len(s) {
			t.Fatalf("of %q units end at %d, pieces at %d", s, at, end)
		}
		f := Fold(s)
		if Fold(f) != f {
			t.Fatalf("Fold(Fold(%q)) = %q", s, Fold(f))
		}
		us, uf := Units(s), Units(f)
		if len(us) != len(uf) {
			t.Fatalf("units of %q: %v and %v", s, us, uf)
		}
		for i := range us {
			if (us[i].Letter == -1) != (uf[i].Letter == -1) {
				t.Fatalf("units of %q: %v and %v", s, us, uf)
			}
		}
		ps, pf := Pieces(s), Pieces(f)
		if len(ps) != len(pf) {
			t.Fatalf("pieces of %q: %v and %v", s, ps, pf)
		}
		for i := range ps {
			if ps[i].Kind != pf[i].Kind {
				t.Fatalf("pieces of %q: %v and %v", s, ps, pf)
			}
		}
	}
}

func TestAnswersAreNew(t *testing.T) { // P2, P3
	s := "Ab 1,\xff"
	u, p := Units(s), Pieces(s)
	for i := range u {
		u[i] = api.Unit{}
	}
	for i := range p {
		p[i] = api.Piece{}
	}
	wantUnits := []api.Unit{{At: 0, Len: 1, Letter: 65}, {At: 1, Len: 1, Letter: 98}, {At: 2, Len: 1, Letter: 32}, {At: 3, Len: 1, Letter: 49}, {At: 4, Len: 1, Letter: 44}, {At: 5, Len: 1, Letter: -1}}
	wantPieces := []api.Piece{{Kind: api.PieceWord, At: 0, Len: 2}, {Kind: api.PieceBlank, At: 2, Len: 1}, {Kind: api.PieceNumber, At: 3, Len: 1}, {Kind: api.PieceSign, At: 4, Len: 1}, {Kind: api.PieceStray, At: 5, Len: 1}}
	if got := Units(s); !reflect.DeepEqual(got, wantUnits) {
		t.Errorf("Units: %v", got)
	}
	if got := Pieces(s); !reflect.DeepEqual(got, wantPieces) {
		t.Errorf("Pieces: %v", got)
	}
}

func TestLongTexts(t *testing.T) { // P4
	const n = 1 << 20
	if got := Units(strings.Repeat("\xff", n)); len(got) != n {
		t.Errorf("%d units", len(got))
	}
	if got := Pieces(strings.Repeat("\u00e9", n)); len(got) != 1 || got[0].Len != 2*n {
		t.Errorf("%d pieces", len(got))
	}
	if got := Fold(strings.Repeat("A\xc3", n)); got != strings.Repeat("a\xc3", n) {
		t.Error("a long text is folded wrongly")
	}
}
